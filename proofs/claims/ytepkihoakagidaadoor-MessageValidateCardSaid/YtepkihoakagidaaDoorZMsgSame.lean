/- SameMessage of the reference of layer 7 tells whether two messages are equal. Condition: the cells are known. -/
import Derived.Test.YtepkihoakagidaaDoorG3
namespace Go.Proofs.YtepkihoakagidaaDoor
open Go.RowKit

def msgB (a b : Msg) : Bool := decide (a.kind = b.kind ∧ a.frm = b.frm ∧ a.to_ = b.to_ ∧ a.num = b.num ∧ a.day = b.day ∧ a.lot = b.lot ∧ a.other = b.other ∧ a.code = b.code ∧ a.ctry = b.ctry ∧ a.qty = b.qty ∧ a.amt = b.amt ∧ a.text = b.text ∧ a.list = b.list)
theorem msgB_iff (a b : Msg) : msgB a b = true ↔ a = b := by
  unfold msgB
  rw [decide_eq_true_iff]
  constructor
  · obtain ⟨A⟩ := a
    obtain ⟨B⟩ := b
    rintro ⟨h1, h2, h3, h4, h5, h6, h7, h8, h9, h10, h11, h12, h13⟩
    dsimp only at *
    subst h1 h2 h3 h4 h5 h6 h7 h8 h9 h10 h11 h12 h13
    rfl
  · rintro rfl
    exact ⟨rfl, rfl, rfl, rfl, rfl, rfl, rfl, rfl, rfl, rfl, rfl, rfl, rfl⟩
theorem eq_x {a b : UInt8} : a = b → b = a := Eq.symm

set_option maxRecDepth 100000 in
set_option maxHeartbeats 6400000 in
theorem refSameM_any (a b : Msg) (v1 v2 : Value) (w : World) (h1 : MsgIn (Has_ w) w v1 a) (h2 : MsgIn (Has_ w) w v2 b) :
    Calls Tryd.prog 23 #[v1, v2] w fun e w' => e = .returned (.bool (msgB a b)) ∧ Below w.heap.size w w' := by
  obtain ⟨⟨u1, rfl, n1⟩, _, _, _⟩ := h1
  obtain ⟨⟨u2, rfl, n2⟩, _, _, _⟩ := h2
  have HL := Lib.hid (fun W (hb : Below w.heap.size w W) => refSameL_any u1 u2 a.list b.list W (n1.later hb) (n2.later hb))
  have hno : Hid (a ≠ b → msgB a b = false) := Lib.hid (fun h => by rw [← Bool.not_eq_true, msgB_iff]; exact h)
  have hyes : Hid (a.list = b.list → a = b → msgB a b = true) := Lib.hid (fun _ h => (msgB_iff a b).2 h)
  generalize msgB a b = R at *
  clear n1 n2
  unfold msgV
  unfold strV
  have hb1 := (Below.refl w.heap.size w).alloc (Nat.le_refl _) (.cells #[.int .i64 a.kind, .int .i64 a.frm, .int .i64 a.to_, .int .i64 a.num, .int .i64 a.day, .int .i64 a.lot, .int .i64 a.other, .string ⟨a.code.toArray⟩, .string ⟨a.ctry.toArray⟩, .int .i64 a.qty, .int .i64 a.amt, u1, .string ⟨a.text.toArray⟩] 24)
  have hb2 := hb1.alloc hb1.size (.cells #[.int .i64 b.kind, .int .i64 b.frm, .int .i64 b.to_, .int .i64 b.num, .int .i64 b.day, .int .i64 b.lot, .int .i64 b.other, .string ⟨b.code.toArray⟩, .string ⟨b.ctry.toArray⟩, .int .i64 b.qty, .int .i64 b.amt, u2, .string ⟨b.text.toArray⟩] 24)
  have HB := Lib.hid hb2
  clear hb1 hb2
  by_cases k_kind : a.kind = b.kind
  rotate_left
  have hr := hno.out (fun e => k_kind (by rw [e]))
  subst hr
  have q_kind : (a.kind == b.kind) = false := by rw [beq_eq_false_iff_ne]; exact k_kind
  clear HL hno hyes k_kind
  go_enter Tryd.func23, Tryd.ntmps23
  go_wp2_with fail
  go_ret
  exact ⟨rfl, HB.out⟩
  have q_kind : (a.kind == b.kind) = true := by rw [beq_iff_eq]; exact k_kind
  replace k_kind := Lib.hid k_kind
  by_cases k_frm : a.frm = b.frm
  rotate_left
  have hr := hno.out (fun e => k_frm (by rw [e]))
  subst hr
  have q_frm : (a.frm == b.frm) = false := by rw [beq_eq_false_iff_ne]; exact k_frm
  clear HL hno hyes k_frm
  go_enter Tryd.func23, Tryd.ntmps23
  go_wp2_with fail
  go_ret
  exact ⟨rfl, HB.out⟩
  have q_frm : (a.frm == b.frm) = true := by rw [beq_iff_eq]; exact k_frm
  replace k_frm := Lib.hid k_frm
  by_cases k_to_ : a.to_ = b.to_
  rotate_left
  have hr := hno.out (fun e => k_to_ (by rw [e]))
  subst hr
  have q_to_ : (a.to_ == b.to_) = false := by rw [beq_eq_false_iff_ne]; exact k_to_
  clear HL hno hyes k_to_
  go_enter Tryd.func23, Tryd.ntmps23
  go_wp2_with fail
  go_ret
  exact ⟨rfl, HB.out⟩
  have q_to_ : (a.to_ == b.to_) = true := by rw [beq_iff_eq]; exact k_to_
  replace k_to_ := Lib.hid k_to_
  by_cases k_num : a.num = b.num
  rotate_left
  have hr := hno.out (fun e => k_num (by rw [e]))
  subst hr
  have q_num : (a.num == b.num) = false := by rw [beq_eq_false_iff_ne]; exact k_num
  clear HL hno hyes k_num
  go_enter Tryd.func23, Tryd.ntmps23
  go_wp2_with fail
  go_ret
  exact ⟨rfl, HB.out⟩
  have q_num : (a.num == b.num) = true := by rw [beq_iff_eq]; exact k_num
  replace k_num := Lib.hid k_num
  by_cases k_day : a.day = b.day
  rotate_left
  have hr := hno.out (fun e => k_day (by rw [e]))
  subst hr
  have q_day : (a.day == b.day) = false := by rw [beq_eq_false_iff_ne]; exact k_day
  clear HL hno hyes k_day
  go_enter Tryd.func23, Tryd.ntmps23
  go_wp2_with fail
  go_ret
  exact ⟨rfl, HB.out⟩
  have q_day : (a.day == b.day) = true := by rw [beq_iff_eq]; exact k_day
  replace k_day := Lib.hid k_day
  by_cases k_lot : a.lot = b.lot
  rotate_left
  have hr := hno.out (fun e => k_lot (by rw [e]))
  subst hr
  have q_lot : (a.lot == b.lot) = false := by rw [beq_eq_false_iff_ne]; exact k_lot
  clear HL hno hyes k_lot
  go_enter Tryd.func23, Tryd.ntmps23
  go_wp2_with fail
  go_ret
  exact ⟨rfl, HB.out⟩
  have q_lot : (a.lot == b.lot) = true := by rw [beq_iff_eq]; exact k_lot
  replace k_lot := Lib.hid k_lot
  by_cases k_other : a.other = b.other
  rotate_left
  have hr := hno.out (fun e => k_other (by rw [e]))
  subst hr
  have q_other : (a.other == b.other) = false := by rw [beq_eq_false_iff_ne]; exact k_other
  clear HL hno hyes k_other
  go_enter Tryd.func23, Tryd.ntmps23
  go_wp2_with fail
  go_ret
  exact ⟨rfl, HB.out⟩
  have q_other : (a.other == b.other) = true := by rw [beq_iff_eq]; exact k_other
  replace k_other := Lib.hid k_other
  by_cases k_code : a.code = b.code
  rotate_left
  have hr := hno.out (fun e => k_code (by rw [e]))
  subst hr
  have q_code : (a.code == b.code) = false := by rw [beq_eq_false_iff_ne]; exact k_code
  clear HL hno hyes k_code
  go_enter Tryd.func23, Tryd.ntmps23
  go_wp2_with fail
  go_ret
  exact ⟨rfl, HB.out⟩
  have q_code : (a.code == b.code) = true := by rw [beq_iff_eq]; exact k_code
  replace k_code := Lib.hid k_code
  by_cases k_ctry : a.ctry = b.ctry
  rotate_left
  have hr := hno.out (fun e => k_ctry (by rw [e]))
  subst hr
  have q_ctry : (a.ctry == b.ctry) = false := by rw [beq_eq_false_iff_ne]; exact k_ctry
  clear HL hno hyes k_ctry
  go_enter Tryd.func23, Tryd.ntmps23
  go_wp2_with fail
  go_ret
  exact ⟨rfl, HB.out⟩
  have q_ctry : (a.ctry == b.ctry) = true := by rw [beq_iff_eq]; exact k_ctry
  replace k_ctry := Lib.hid k_ctry
  by_cases k_qty : a.qty = b.qty
  rotate_left
  have hr := hno.out (fun e => k_qty (by rw [e]))
  subst hr
  have q_qty : (a.qty == b.qty) = false := by rw [beq_eq_false_iff_ne]; exact k_qty
  clear HL hno hyes k_qty
  go_enter Tryd.func23, Tryd.ntmps23
  go_wp2_with fail
  go_ret
  exact ⟨rfl, HB.out⟩
  have q_qty : (a.qty == b.qty) = true := by rw [beq_iff_eq]; exact k_qty
  replace k_qty := Lib.hid k_qty
  by_cases k_amt : a.amt = b.amt
  rotate_left
  have hr := hno.out (fun e => k_amt (by rw [e]))
  subst hr
  have q_amt : (a.amt == b.amt) = false := by rw [beq_eq_false_iff_ne]; exact k_amt
  clear HL hno hyes k_amt
  go_enter Tryd.func23, Tryd.ntmps23
  go_wp2_with fail
  go_ret
  exact ⟨rfl, HB.out⟩
  have q_amt : (a.amt == b.amt) = true := by rw [beq_iff_eq]; exact k_amt
  replace k_amt := Lib.hid k_amt
  by_cases k_text : a.text = b.text
  rotate_left
  have hr := hno.out (fun e => k_text (by rw [e]))
  subst hr
  have q_text : (a.text == b.text) = false := by rw [beq_eq_false_iff_ne]; exact k_text
  clear HL hno hyes k_text
  go_enter Tryd.func23, Tryd.ntmps23
  go_wp2_with fail
  go_ret
  exact ⟨rfl, HB.out⟩
  have q_text : (a.text == b.text) = true := by rw [beq_iff_eq]; exact k_text
  replace k_text := Lib.hid k_text
  have hr := Lib.hid (fun h : a.list = b.list => hyes.out h (by
    obtain ⟨x1, x2, x3, x4, x5, x6, x7, x8, x9, x10, x11, x12, x13⟩ := a
    obtain ⟨y1, y2, y3, y4, y5, y6, y7, y8, y9, y10, y11, y12, y13⟩ := b
    replace k_kind := k_kind.out
    replace k_frm := k_frm.out
    replace k_to_ := k_to_.out
    replace k_num := k_num.out
    replace k_day := k_day.out
    replace k_lot := k_lot.out
    replace k_other := k_other.out
    replace k_code := k_code.out
    replace k_ctry := k_ctry.out
    replace k_qty := k_qty.out
    replace k_amt := k_amt.out
    replace k_text := k_text.out
    dsimp only at *
    subst k_kind k_frm k_to_ k_num k_day k_lot k_other k_code k_ctry k_qty k_amt k_text h
    rfl))
  have hr2 : R = (a.list == b.list) := by
    by_cases h : a.list = b.list
    · rw [hr.out h]; exact (beq_iff_eq.2 h).symm
    · rw [hno.out (fun e => h (by rw [e]))]; exact (beq_eq_false_iff_ne.2 h).symm
  subst hr2
  clear hr hno hyes k_kind k_frm k_to_ k_num k_day k_lot k_other k_code k_ctry k_qty k_amt k_text
  go_enter Tryd.func23, Tryd.ntmps23
  go_wp2_with fail
  refine (HL.out _ HB.out).mono ?_
  rintro e w1 ⟨rfl, n, rfl⟩
  go_wp2_with fail
  go_ret
  exact ⟨rfl, below_drewN HB.out _⟩
end Go.Proofs.YtepkihoakagidaaDoor
