/- What Message of the reference of layer 7 returns: the error of a message. Condition: the message's cells are known. -/
import Derived.Test.YtepkihoakagidaaDoorG2
import Derived.Handy
namespace Go.Proofs.YtepkihoakagidaaDoor
open Go.RowKit

/-- A list of numbers in memory. -/
def NumsIn (p : Nat → Prop) (w : World) (v : Value) (l : List Int) : Prop := CellsIn p w 1 v l.length (l.map fun n => .int .i64 n)
theorem NumsIn.keep {p q : Nat → Prop} {w w1 : World} {v : Value} {l : List Int} (h : NumsIn p w v l) (hk : ∀ b, p b → q b ∧ w1.heap[b]? = w.heap[b]?) : NumsIn q w1 v l := CellsIn.keep h hk
theorem NumsIn.later {w w1 : World} {v : Value} {l : List Int} (h : NumsIn (Has_ w) w v l) (hb : Below w.heap.size w w1) : NumsIn (Has_ w1) w1 v l := h.keep (has_keep hb)
theorem NumsIn.form {p : Nat → Prop} {w : World} {v : Value} {l : List Int} (h : NumsIn p w v l) : ∃ (ao : Option Addr) (cap : Nat), v = .slice ao l.length cap ∧ l.length ≤ maxLen ∧ ∀ (i : Nat) (x : Int), l[i]? = some x → ∃ a, ao = some a ∧ w.cell? (a.add i) = some (.int .i64 x) := by
  obtain ⟨h1, h2 | ⟨a, cap, h2, h3, h4, h5, h6⟩⟩ := h
  · refine ⟨none, 0, by rw [h2.1, h2.2], by rw [h2.2]; exact Nat.zero_le _, fun k x hk => ?_⟩
    have := (List.getElem?_eq_some_iff.1 hk).1
    omega
  · exact ⟨some a, cap, h2, Nat.le_trans h3 h4, fun k x hk => ⟨a, rfl, h6 k _ (by rw [List.getElem?_map, hk]; rfl)⟩⟩
/-- A message as a value; in memory. -/
def msgV (m : Msg) (vl : Value) : Value := .agg #[.int .i64 m.kind, .int .i64 m.frm, .int .i64 m.to_, .int .i64 m.num, .int .i64 m.day, .int .i64 m.lot, .int .i64 m.other, strV m.code, strV m.ctry, .int .i64 m.qty, .int .i64 m.amt, vl, strV m.text]
structure MsgIn (p : Nat → Prop) (w : World) (v : Value) (m : Msg) : Prop where
  val : ∃ vl, v = msgV m vl ∧ NumsIn p w vl m.list
  code : m.code.length ≤ maxLen
  ctry : m.ctry.length ≤ maxLen
  text : m.text.length ≤ maxLen
theorem MsgIn.later {w w1 : World} {v : Value} {m : Msg} (h : MsgIn (Has_ w) w v m) (hb : Below w.heap.size w w1) : MsgIn (Has_ w1) w1 v m := by
  obtain ⟨vl, h1, h2⟩ := h.val
  exact ⟨⟨vl, h1, h2.later hb⟩, h.code, h.ctry, h.text⟩
theorem refAm_any (x : Int) (w : World) : Calls Tryd.prog 32 #[.int .i64 x] w fun e w' => e = .returned (.bool (amB x)) ∧ w = w' := by
  unfold amB
  obtain ⟨b1, h1⟩ : ∃ b, decide (-1000000000000 ≤ x) = b := ⟨_, rfl⟩
  obtain ⟨b2, h2⟩ : ∃ b, decide (x ≤ 1000000000000) = b := ⟨_, rfl⟩
  rw [h1, h2]
  cases b1 with
  | false =>
    clear h2
    go_enter Tryd.func32, Tryd.ntmps32
    go_wp2_with fail
    go_ret
    exact ⟨rfl, rfl⟩
  | true =>
    go_enter Tryd.func32, Tryd.ntmps32
    go_wp2_with fail
    go_ret
    exact ⟨rfl, rfl⟩
theorem all_take {l : List Int} {i : Nat} {x : Int} (h : l[i]? = some x) : (l.take (i + 1)).all amB = ((l.take i).all amB && amB x) := by
  rw [List.take_add_one, h]
  simp [Bool.and_comm]
theorem all_stop {l : List Int} {i : Nat} {x : Int} (h : l[i]? = some x) (hx : amB x = false) : l.all amB = false := by
  rw [List.all_eq_false]
  exact ⟨x, List.mem_of_getElem? h, by rw [hx]; simp⟩

set_option maxRecDepth 100000 in
set_option maxHeartbeats 6400000 in
theorem refMessage_any (m : Msg) (v : Value) (w : World) (h : MsgIn (Has_ w) w v m) :
    Calls Tryd.prog 12 #[v] w fun e w' => e = .returned (.int .i64 (msgE m)) ∧ Below w.heap.size w w' := by
  obtain ⟨⟨vl, rfl, hN⟩, hcl, hyl, htl⟩ := h
  obtain ⟨ao, cap, rfl, hll, hcells⟩ := hN.form
  have HIn := Lib.hid (fun x n w => refIn_any x n w)
  have HAm := Lib.hid (fun x w => refAm_any x w)
  have HCo := Lib.hid (fun w => refCode_any m.code hcl w)
  have HCy := Lib.hid (fun w => refCountry_any m.ctry w)
  have hC := Lib.hid hcells
  have hb1 := (Below.refl w.heap.size w).alloc (Nat.le_refl _) (.cells #[.int .i64 m.kind, .int .i64 m.frm, .int .i64 m.to_, .int .i64 m.num, .int .i64 m.day, .int .i64 m.lot, .int .i64 m.other, strV m.code, strV m.ctry, .int .i64 m.qty, .int .i64 m.amt, .slice ao m.list.length cap, strV m.text] 24)
  have HB := Lib.hid hb1
  clear hN hcells hb1 hcl
  obtain ⟨R, hR⟩ : ∃ R, R = msgE m := ⟨_, rfl⟩
  rw [← hR]
  have hm : Hid (R = if rangeB m then (if codeB m.code && (m.ctry.isEmpty || ctryB m.ctry) then (if decide (m.list.length ≤ 64) && decide (m.text.length ≤ 200) then (if m.list.all amB then 0 else 2) else 8) else 1) else 2) := Lib.hid (by rw [hR]; rfl)
  have hrange : Hid (rangeB m = ((decide (1 ≤ m.kind) && decide (m.kind ≤ 60)) && (inB m.frm 999 && (inB m.to_ 999 && (inB m.num 1000000000 && (inB m.day 36524 && (inB m.lot 1000000000 && (inB m.other 1000000000 && (inB m.qty 1000000000 && amB m.amt))))))))) := Lib.hid rfl
  clear hR
  obtain ⟨kind, frm, to_, num, day, lot, other, code, ctry, qty, amt, list, text⟩ := m
  unfold msgV
  dsimp only at *
  unfold strV at *
  cases k1 : decide (1 ≤ kind) with
  | false =>
    have d1 : decide (kind < 1) = true := decide_eq_true (by simp at k1; omega)
    have hm2 : R = 2 := by rw [hm.out, hrange.out, k1]; rfl
    subst hm2
    clear hm hrange hC
    go_enter Tryd.func12, Tryd.ntmps12
    go_wp2_with (first
      | (go_at_call 31; refine (HIn.out _ _ _).mono ?_; rintro e w' ⟨rfl, rfl⟩)
      | (go_at_call 32; refine (HAm.out _ _).mono ?_; rintro e w' ⟨rfl, rfl⟩)
      | (go_at_call 33; refine (HCo.out _).mono ?_; rintro e w' ⟨rfl, rfl⟩)
      | (go_at_call 34; refine (HCy.out _).mono ?_; rintro e w' ⟨rfl, rfl⟩))
    go_ret
    exact ⟨rfl, HB.out⟩
  | true =>
    have d1 : decide (kind < 1) = false := decide_eq_false (by simp at k1; omega)
    cases k2 : decide (kind ≤ 60) with
    | false =>
      have d2 : decide (60 < kind) = true := decide_eq_true (by simp at k2; omega)
      have hm2 : R = 2 := by rw [hm.out, hrange.out, k1, k2]; rfl
      subst hm2
      clear hm hrange hC
      go_enter Tryd.func12, Tryd.ntmps12
      go_wp2_with (first
        | (go_at_call 31; refine (HIn.out _ _ _).mono ?_; rintro e w' ⟨rfl, rfl⟩)
        | (go_at_call 32; refine (HAm.out _ _).mono ?_; rintro e w' ⟨rfl, rfl⟩)
        | (go_at_call 33; refine (HCo.out _).mono ?_; rintro e w' ⟨rfl, rfl⟩)
        | (go_at_call 34; refine (HCy.out _).mono ?_; rintro e w' ⟨rfl, rfl⟩))
      go_ret
      exact ⟨rfl, HB.out⟩
    | true =>
      have d2 : decide (60 < kind) = false := decide_eq_false (by simp at k2; omega)
      cases k3 : inB frm 999 with
      | false =>
        have hm2 : R = 2 := by rw [hm.out, hrange.out, k1, k2, k3]; rfl
        subst hm2
        clear hm hrange hC
        go_enter Tryd.func12, Tryd.ntmps12
        go_wp2_with (first
          | (go_at_call 31; refine (HIn.out _ _ _).mono ?_; rintro e w' ⟨rfl, rfl⟩)
          | (go_at_call 32; refine (HAm.out _ _).mono ?_; rintro e w' ⟨rfl, rfl⟩)
          | (go_at_call 33; refine (HCo.out _).mono ?_; rintro e w' ⟨rfl, rfl⟩)
          | (go_at_call 34; refine (HCy.out _).mono ?_; rintro e w' ⟨rfl, rfl⟩))
        go_ret
        exact ⟨rfl, HB.out⟩
      | true =>
        cases k4 : inB to_ 999 with
        | false =>
          have hm2 : R = 2 := by rw [hm.out, hrange.out, k1, k2, k3, k4]; rfl
          subst hm2
          clear hm hrange hC
          go_enter Tryd.func12, Tryd.ntmps12
          go_wp2_with (first
            | (go_at_call 31; refine (HIn.out _ _ _).mono ?_; rintro e w' ⟨rfl, rfl⟩)
            | (go_at_call 32; refine (HAm.out _ _).mono ?_; rintro e w' ⟨rfl, rfl⟩)
            | (go_at_call 33; refine (HCo.out _).mono ?_; rintro e w' ⟨rfl, rfl⟩)
            | (go_at_call 34; refine (HCy.out _).mono ?_; rintro e w' ⟨rfl, rfl⟩))
          go_ret
          exact ⟨rfl, HB.out⟩
        | true =>
          cases k5 : inB num 1000000000 with
          | false =>
            have hm2 : R = 2 := by rw [hm.out, hrange.out, k1, k2, k3, k4, k5]; rfl
            subst hm2
            clear hm hrange hC
            go_enter Tryd.func12, Tryd.ntmps12
            go_wp2_with (first
              | (go_at_call 31; refine (HIn.out _ _ _).mono ?_; rintro e w' ⟨rfl, rfl⟩)
              | (go_at_call 32; refine (HAm.out _ _).mono ?_; rintro e w' ⟨rfl, rfl⟩)
              | (go_at_call 33; refine (HCo.out _).mono ?_; rintro e w' ⟨rfl, rfl⟩)
              | (go_at_call 34; refine (HCy.out _).mono ?_; rintro e w' ⟨rfl, rfl⟩))
            go_ret
            exact ⟨rfl, HB.out⟩
          | true =>
            cases k6 : inB day 36524 with
            | false =>
              have hm2 : R = 2 := by rw [hm.out, hrange.out, k1, k2, k3, k4, k5, k6]; rfl
              subst hm2
              clear hm hrange hC
              go_enter Tryd.func12, Tryd.ntmps12
              go_wp2_with (first
                | (go_at_call 31; refine (HIn.out _ _ _).mono ?_; rintro e w' ⟨rfl, rfl⟩)
                | (go_at_call 32; refine (HAm.out _ _).mono ?_; rintro e w' ⟨rfl, rfl⟩)
                | (go_at_call 33; refine (HCo.out _).mono ?_; rintro e w' ⟨rfl, rfl⟩)
                | (go_at_call 34; refine (HCy.out _).mono ?_; rintro e w' ⟨rfl, rfl⟩))
              go_ret
              exact ⟨rfl, HB.out⟩
            | true =>
              cases k7 : inB lot 1000000000 with
              | false =>
                have hm2 : R = 2 := by rw [hm.out, hrange.out, k1, k2, k3, k4, k5, k6, k7]; rfl
                subst hm2
                clear hm hrange hC
                go_enter Tryd.func12, Tryd.ntmps12
                go_wp2_with (first
                  | (go_at_call 31; refine (HIn.out _ _ _).mono ?_; rintro e w' ⟨rfl, rfl⟩)
                  | (go_at_call 32; refine (HAm.out _ _).mono ?_; rintro e w' ⟨rfl, rfl⟩)
                  | (go_at_call 33; refine (HCo.out _).mono ?_; rintro e w' ⟨rfl, rfl⟩)
                  | (go_at_call 34; refine (HCy.out _).mono ?_; rintro e w' ⟨rfl, rfl⟩))
                go_ret
                exact ⟨rfl, HB.out⟩
              | true =>
                cases k8 : inB other 1000000000 with
                | false =>
                  have hm2 : R = 2 := by rw [hm.out, hrange.out, k1, k2, k3, k4, k5, k6, k7, k8]; rfl
                  subst hm2
                  clear hm hrange hC
                  go_enter Tryd.func12, Tryd.ntmps12
                  go_wp2_with (first
                    | (go_at_call 31; refine (HIn.out _ _ _).mono ?_; rintro e w' ⟨rfl, rfl⟩)
                    | (go_at_call 32; refine (HAm.out _ _).mono ?_; rintro e w' ⟨rfl, rfl⟩)
                    | (go_at_call 33; refine (HCo.out _).mono ?_; rintro e w' ⟨rfl, rfl⟩)
                    | (go_at_call 34; refine (HCy.out _).mono ?_; rintro e w' ⟨rfl, rfl⟩))
                  go_ret
                  exact ⟨rfl, HB.out⟩
                | true =>
                  cases k9 : inB qty 1000000000 with
                  | false =>
                    have hm2 : R = 2 := by rw [hm.out, hrange.out, k1, k2, k3, k4, k5, k6, k7, k8, k9]; rfl
                    subst hm2
                    clear hm hrange hC
                    go_enter Tryd.func12, Tryd.ntmps12
                    go_wp2_with (first
                      | (go_at_call 31; refine (HIn.out _ _ _).mono ?_; rintro e w' ⟨rfl, rfl⟩)
                      | (go_at_call 32; refine (HAm.out _ _).mono ?_; rintro e w' ⟨rfl, rfl⟩)
                      | (go_at_call 33; refine (HCo.out _).mono ?_; rintro e w' ⟨rfl, rfl⟩)
                      | (go_at_call 34; refine (HCy.out _).mono ?_; rintro e w' ⟨rfl, rfl⟩))
                    go_ret
                    exact ⟨rfl, HB.out⟩
                  | true =>
                    cases k10 : amB amt with
                    | false =>
                      have hm2 : R = 2 := by rw [hm.out, hrange.out, k1, k2, k3, k4, k5, k6, k7, k8, k9, k10]; rfl
                      subst hm2
                      clear hm hrange hC
                      go_enter Tryd.func12, Tryd.ntmps12
                      go_wp2_with (first
                        | (go_at_call 31; refine (HIn.out _ _ _).mono ?_; rintro e w' ⟨rfl, rfl⟩)
                        | (go_at_call 32; refine (HAm.out _ _).mono ?_; rintro e w' ⟨rfl, rfl⟩)
                        | (go_at_call 33; refine (HCo.out _).mono ?_; rintro e w' ⟨rfl, rfl⟩)
                        | (go_at_call 34; refine (HCy.out _).mono ?_; rintro e w' ⟨rfl, rfl⟩))
                      go_ret
                      exact ⟨rfl, HB.out⟩
                    | true =>
                      have hr1 : rangeB ⟨kind, frm, to_, num, day, lot, other, code, ctry, qty, amt, list, text⟩ = true := by rw [hrange.out, k1, k2, k3, k4, k5, k6, k7, k8, k9, k10]; rfl
                      replace hm := Lib.hid (hm.out.trans (if_pos hr1))
                      clear hr1
                      cases c1 : codeB code with
                      | false =>
                        have hm2 : R = 1 := by rw [hm.out, c1]; rfl
                        subst hm2
                        clear hm hrange hC
                        go_enter Tryd.func12, Tryd.ntmps12
                        go_wp2_with (first
                          | (go_at_call 31; refine (HIn.out _ _ _).mono ?_; rintro e w' ⟨rfl, rfl⟩)
                          | (go_at_call 32; refine (HAm.out _ _).mono ?_; rintro e w' ⟨rfl, rfl⟩)
                          | (go_at_call 33; refine (HCo.out _).mono ?_; rintro e w' ⟨rfl, rfl⟩)
                          | (go_at_call 34; refine (HCy.out _).mono ?_; rintro e w' ⟨rfl, rfl⟩))
                        go_ret
                        exact ⟨rfl, HB.out⟩
                      | true =>
                        by_cases hy : ctry = []
                        rotate_left
                        have y0 : (ctry == []) = false := by rw [beq_eq_false_iff_ne]; exact hy
                        have y1 : ctry.isEmpty = false := by cases ctry with | nil => exact absurd rfl hy | cons a l => rfl
                        cases c2 : ctryB ctry with
                        | false =>
                          have hm2 : R = 1 := by rw [hm.out, c1, c2, y1]; rfl
                          subst hm2
                          clear hm hrange hC
                          go_enter Tryd.func12, Tryd.ntmps12
                          go_wp2_with (first
                            | (go_at_call 31; refine (HIn.out _ _ _).mono ?_; rintro e w' ⟨rfl, rfl⟩)
                            | (go_at_call 32; refine (HAm.out _ _).mono ?_; rintro e w' ⟨rfl, rfl⟩)
                            | (go_at_call 33; refine (HCo.out _).mono ?_; rintro e w' ⟨rfl, rfl⟩)
                            | (go_at_call 34; refine (HCy.out _).mono ?_; rintro e w' ⟨rfl, rfl⟩))
                          go_ret
                          exact ⟨rfl, HB.out⟩
                        | true =>
                          replace hm : Hid (R = if decide (list.length ≤ 64) && decide (text.length ≤ 200) then (if list.all amB then 0 else 2) else 8) := Lib.hid (by rw [hm.out, c1, c2, y1]; rfl)
                          cases t1 : decide (list.length ≤ 64) with
                          | false =>
                            have d3 : decide ((64 : Int) < (list.length : Int)) = true := decide_eq_true (by simp at t1; omega)
                            have hm2 : R = 8 := by rw [hm.out, t1]; rfl
                            subst hm2
                            clear hm hrange hC
                            go_enter Tryd.func12, Tryd.ntmps12
                            go_wp2_with (first
                              | (go_at_call 31; refine (HIn.out _ _ _).mono ?_; rintro e w' ⟨rfl, rfl⟩)
                              | (go_at_call 32; refine (HAm.out _ _).mono ?_; rintro e w' ⟨rfl, rfl⟩)
                              | (go_at_call 33; refine (HCo.out _).mono ?_; rintro e w' ⟨rfl, rfl⟩)
                              | (go_at_call 34; refine (HCy.out _).mono ?_; rintro e w' ⟨rfl, rfl⟩))
                            go_ret
                            exact ⟨rfl, HB.out⟩
                          | true =>
                            have d3 : decide ((64 : Int) < (list.length : Int)) = false := decide_eq_false (by simp at t1; omega)
                            have hts : (⟨text.toArray⟩ : ByteArray).size = text.length := by show text.toArray.size = _; simp
                            cases t2 : decide (text.length ≤ 200) with
                            | false =>
                              have d4 : decide ((200 : Int) < (text.length : Int)) = true := decide_eq_true (by simp at t2; omega)
                              have hm2 : R = 8 := by rw [hm.out, t1, t2]; rfl
                              subst hm2
                              clear hm hrange hC
                              go_enter Tryd.func12, Tryd.ntmps12
                              go_wp2_with (first
                                | (go_at_call 31; refine (HIn.out _ _ _).mono ?_; rintro e w' ⟨rfl, rfl⟩)
                                | (go_at_call 32; refine (HAm.out _ _).mono ?_; rintro e w' ⟨rfl, rfl⟩)
                                | (go_at_call 33; refine (HCo.out _).mono ?_; rintro e w' ⟨rfl, rfl⟩)
                                | (go_at_call 34; refine (HCy.out _).mono ?_; rintro e w' ⟨rfl, rfl⟩))
                              go_ret
                              exact ⟨rfl, HB.out⟩
                            | true =>
                              have d4 : decide ((200 : Int) < (text.length : Int)) = false := decide_eq_false (by simp at t2; omega)
                              replace hm : Hid (R = if list.all amB then 0 else 2) := Lib.hid (by rw [hm.out, t1, t2]; rfl)
                              have hl64 : list.length ≤ 64 := by simpa using t1
                              clear hrange t1 t2 hll htl hyl
                              go_enter Tryd.func12, Tryd.ntmps12
                              go_wp2_with (first
                                | (go_at_call 31; refine (HIn.out _ _ _).mono ?_; rintro e w' ⟨rfl, rfl⟩)
                                | (go_at_call 32; refine (HAm.out _ _).mono ?_; rintro e w' ⟨rfl, rfl⟩)
                                | (go_at_call 33; refine (HCo.out _).mono ?_; rintro e w' ⟨rfl, rfl⟩)
                                | (go_at_call 34; refine (HCy.out _).mono ?_; rintro e w' ⟨rfl, rfl⟩))
                              generalize hW : w.alloc (.cells #[.int .i64 kind, .int .i64 frm, .int .i64 to_, .int .i64 num, .int .i64 day, .int .i64 lot, .int .i64 other, .string ⟨code.toArray⟩, .string ⟨ctry.toArray⟩, .int .i64 qty, .int .i64 amt, .slice ao list.length cap, .string ⟨text.toArray⟩] 24) = W at *
                              have cB : W.cell? ⟨w.heap.size, 11, none⟩ = some (.slice ao list.length cap) := by rw [← hW]; simp [go_sem]
                              have hC2 := Lib.hid (fun i x hx => by
                                obtain ⟨a, h1, h2⟩ := hC.out i x hx
                                exact ⟨a, h1, (HB.out.cell (World.block_lt_of_cell? w _ h2)).trans h2⟩ : ∀ (i : Nat) (x : Int), list[i]? = some x → ∃ a, ao = some a ∧ W.cell? (a.add i) = some (.int .i64 x))
                              clear hW hC
                              go_loop [3] (fun vi => ∃ i : Nat, vi = .int .i64 i ∧ i ≤ list.length ∧ Hid ((list.take i).all amB = true)) (fun vi => list.length - (intOf vi).toNat)
                              case atStart => exact ⟨0, by go_num, by omega, Lib.hid rfl⟩
                              case round =>
                                obtain ⟨i, rfl, hi, hA⟩ := hrel
                                by_cases hlt : i < list.length
                                · have hx : list[i]? = some (list[i]'hlt) := List.getElem?_eq_getElem hlt
                                  obtain ⟨a, rfl, hc⟩ := hC2.out i _ hx
                                  have hst := Lib.hid (fun hf => all_stop hx hf)
                                  have hta := Lib.hid (all_take hx)
                                  generalize list[i]'hlt = x at *
                                  generalize hp : a.add i = pa at *
                                  clear hx
                                  cases ha : amB x with
                                  | false =>
                                    have hm2 : R = 2 := by rw [hm.out, hst.out ha]; rfl
                                    subst hm2
                                    clear hm hst hta
                                    go_wp2_with (go_at_call 32; refine (HAm.out _ _).mono ?_; rintro e w' ⟨rfl, rfl⟩)
                                    go_ret
                                    exact ⟨rfl, HB.out⟩
                                  | true =>
                                    have hN : Hid ((list.take (i + 1)).all amB = true) := Lib.hid (by rw [hta.out, hA.out, ha]; rfl)
                                    clear hst hta
                                    go_wp2_with (go_at_call 32; refine (HAm.out _ _).mono ?_; rintro e w' ⟨rfl, rfl⟩)
                                    go_round
                                    case rel => exact ⟨i + 1, by go_num, by omega, hN⟩
                                    case measure => simp [intOf]; omega
                                · obtain rfl : i = list.length := by omega
                                  have hm2 : R = 0 := by
                                    have := hA.out
                                    rw [List.take_length] at this
                                    rw [hm.out, this]
                                    rfl
                                  subst hm2
                                  go_wp2_with fail
                                  go_ret
                                  exact ⟨rfl, HB.out⟩
                        subst hy
                        replace hm : Hid (R = if decide (list.length ≤ 64) && decide (text.length ≤ 200) then (if list.all amB then 0 else 2) else 8) := Lib.hid (by rw [hm.out, c1]; rfl)
                        cases t1 : decide (list.length ≤ 64) with
                        | false =>
                          have d3 : decide ((64 : Int) < (list.length : Int)) = true := decide_eq_true (by simp at t1; omega)
                          have hm2 : R = 8 := by rw [hm.out, t1]; rfl
                          subst hm2
                          clear hm hrange hC
                          go_enter Tryd.func12, Tryd.ntmps12
                          go_wp2_with (first
                            | (go_at_call 31; refine (HIn.out _ _ _).mono ?_; rintro e w' ⟨rfl, rfl⟩)
                            | (go_at_call 32; refine (HAm.out _ _).mono ?_; rintro e w' ⟨rfl, rfl⟩)
                            | (go_at_call 33; refine (HCo.out _).mono ?_; rintro e w' ⟨rfl, rfl⟩)
                            | (go_at_call 34; refine (HCy.out _).mono ?_; rintro e w' ⟨rfl, rfl⟩))
                          go_ret
                          exact ⟨rfl, HB.out⟩
                        | true =>
                          have d3 : decide ((64 : Int) < (list.length : Int)) = false := decide_eq_false (by simp at t1; omega)
                          have hts : (⟨text.toArray⟩ : ByteArray).size = text.length := by show text.toArray.size = _; simp
                          cases t2 : decide (text.length ≤ 200) with
                          | false =>
                            have d4 : decide ((200 : Int) < (text.length : Int)) = true := decide_eq_true (by simp at t2; omega)
                            have hm2 : R = 8 := by rw [hm.out, t1, t2]; rfl
                            subst hm2
                            clear hm hrange hC
                            go_enter Tryd.func12, Tryd.ntmps12
                            go_wp2_with (first
                              | (go_at_call 31; refine (HIn.out _ _ _).mono ?_; rintro e w' ⟨rfl, rfl⟩)
                              | (go_at_call 32; refine (HAm.out _ _).mono ?_; rintro e w' ⟨rfl, rfl⟩)
                              | (go_at_call 33; refine (HCo.out _).mono ?_; rintro e w' ⟨rfl, rfl⟩)
                              | (go_at_call 34; refine (HCy.out _).mono ?_; rintro e w' ⟨rfl, rfl⟩))
                            go_ret
                            exact ⟨rfl, HB.out⟩
                          | true =>
                            have d4 : decide ((200 : Int) < (text.length : Int)) = false := decide_eq_false (by simp at t2; omega)
                            replace hm : Hid (R = if list.all amB then 0 else 2) := Lib.hid (by rw [hm.out, t1, t2]; rfl)
                            have hl64 : list.length ≤ 64 := by simpa using t1
                            clear hrange t1 t2 hll htl hyl
                            go_enter Tryd.func12, Tryd.ntmps12
                            go_wp2_with (first
                              | (go_at_call 31; refine (HIn.out _ _ _).mono ?_; rintro e w' ⟨rfl, rfl⟩)
                              | (go_at_call 32; refine (HAm.out _ _).mono ?_; rintro e w' ⟨rfl, rfl⟩)
                              | (go_at_call 33; refine (HCo.out _).mono ?_; rintro e w' ⟨rfl, rfl⟩)
                              | (go_at_call 34; refine (HCy.out _).mono ?_; rintro e w' ⟨rfl, rfl⟩))
                            generalize hW : w.alloc (.cells #[.int .i64 kind, .int .i64 frm, .int .i64 to_, .int .i64 num, .int .i64 day, .int .i64 lot, .int .i64 other, .string ⟨code.toArray⟩, .string ⟨([] : List UInt8).toArray⟩, .int .i64 qty, .int .i64 amt, .slice ao list.length cap, .string ⟨text.toArray⟩] 24) = W at *
                            have cB : W.cell? ⟨w.heap.size, 11, none⟩ = some (.slice ao list.length cap) := by rw [← hW]; simp [go_sem]
                            have hC2 := Lib.hid (fun i x hx => by
                              obtain ⟨a, h1, h2⟩ := hC.out i x hx
                              exact ⟨a, h1, (HB.out.cell (World.block_lt_of_cell? w _ h2)).trans h2⟩ : ∀ (i : Nat) (x : Int), list[i]? = some x → ∃ a, ao = some a ∧ W.cell? (a.add i) = some (.int .i64 x))
                            clear hW hC
                            go_loop [3] (fun vi => ∃ i : Nat, vi = .int .i64 i ∧ i ≤ list.length ∧ Hid ((list.take i).all amB = true)) (fun vi => list.length - (intOf vi).toNat)
                            case atStart => exact ⟨0, by go_num, by omega, Lib.hid rfl⟩
                            case round =>
                              obtain ⟨i, rfl, hi, hA⟩ := hrel
                              by_cases hlt : i < list.length
                              · have hx : list[i]? = some (list[i]'hlt) := List.getElem?_eq_getElem hlt
                                obtain ⟨a, rfl, hc⟩ := hC2.out i _ hx
                                have hst := Lib.hid (fun hf => all_stop hx hf)
                                have hta := Lib.hid (all_take hx)
                                generalize list[i]'hlt = x at *
                                generalize hp : a.add i = pa at *
                                clear hx
                                cases ha : amB x with
                                | false =>
                                  have hm2 : R = 2 := by rw [hm.out, hst.out ha]; rfl
                                  subst hm2
                                  clear hm hst hta
                                  go_wp2_with (go_at_call 32; refine (HAm.out _ _).mono ?_; rintro e w' ⟨rfl, rfl⟩)
                                  go_ret
                                  exact ⟨rfl, HB.out⟩
                                | true =>
                                  have hN : Hid ((list.take (i + 1)).all amB = true) := Lib.hid (by rw [hta.out, hA.out, ha]; rfl)
                                  clear hst hta
                                  go_wp2_with (go_at_call 32; refine (HAm.out _ _).mono ?_; rintro e w' ⟨rfl, rfl⟩)
                                  go_round
                                  case rel => exact ⟨i + 1, by go_num, by omega, hN⟩
                                  case measure => simp [intOf]; omega
                              · obtain rfl : i = list.length := by omega
                                have hm2 : R = 0 := by
                                  have := hA.out
                                  rw [List.take_length] at this
                                  rw [hm.out, this]
                                  rfl
                                subst hm2
                                go_wp2_with fail
                                go_ret
                                exact ⟨rfl, HB.out⟩
end Go.Proofs.YtepkihoakagidaaDoor
