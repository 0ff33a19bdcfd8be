/- What special and text of the reference of layer 6 return: the encoding of a segment. Condition: the segment's cells are known, and its encoding is not too long. -/
import Derived.Test.YtenlfapdmknkjaaSegSpec
import Derived.Test.YtenlfapdmknkjaaByteRow
import Derived.Handy
namespace Go.Proofs.Ytenlfapdmknkjaa
open Go.RowKit

theorem byte_eq (c : UInt8) (k : Nat) (hk : k < 256) : ((c.toNat : Int) == (k : Int)) = (c == UInt8.ofNat k) := by
  by_cases e : c = UInt8.ofNat k
  · rw [e]
    have h : (UInt8.ofNat k).toNat = k := by simp; omega
    rw [h]
    simp
  · have h1 : ((c.toNat : Int) == (k : Int)) = false := by
      rw [beq_eq_false_iff_ne]
      intro h
      have hc : c.toNat = k := by omega
      exact e (by rw [← hc]; simp)
    rw [h1, beq_eq_false_iff_ne.2 e]
theorem refSpecial_any (c : UInt8) (w : World) : Calls Try.prog 37 #[byteV c] w fun e w' => e = .returned (.bool (spB c)) ∧ w = w' := by
  have h1 : ((c.toNat : Int) == 43) = (c == 43) := byte_eq c 43 (by omega)
  have h2 : ((c.toNat : Int) == 58) = (c == 58) := byte_eq c 58 (by omega)
  have h3 : ((c.toNat : Int) == 63) = (c == 63) := byte_eq c 63 (by omega)
  have h4 : ((c.toNat : Int) == 39) = (c == 39) := byte_eq c 39 (by omega)
  unfold spB byteV
  cases c1 : c == 43
  · cases c2 : c == 58
    · cases c3 : c == 63
      · cases c4 : c == 39
        all_goals
          rw [c1] at h1
          rw [c2] at h2
          rw [c3] at h3
          rw [c4] at h4
          clear c1 c2 c3 c4
          generalize (c.toNat : Int) = x at *
          go_enter Try.func37, Try.ntmps37
          go_wp2_with fail
          go_ret
          exact ⟨rfl, rfl⟩
      · rw [c1] at h1
        rw [c2] at h2
        rw [c3] at h3
        clear c1 c2 c3 h4
        generalize (c.toNat : Int) = x at *
        go_enter Try.func37, Try.ntmps37
        go_wp2_with fail
        go_ret
        exact ⟨rfl, rfl⟩
    · rw [c1] at h1
      rw [c2] at h2
      clear c1 c2 h3 h4
      generalize (c.toNat : Int) = x at *
      go_enter Try.func37, Try.ntmps37
      go_wp2_with fail
      go_ret
      exact ⟨rfl, rfl⟩
  · rw [c1] at h1
    clear c1 h2 h3 h4
    generalize (c.toNat : Int) = x at *
    go_enter Try.func37, Try.ntmps37
    go_wp2_with fail
    go_ret
    exact ⟨rfl, rfl⟩

theorem info_byte : (Try.prog.info? 5).map (fun i => (i.zero, i.size, i.bytes)) = some (some (.int .u8 0), 1, 1) := by kernel_rfl
/-- One byte, laid in a block of its own. -/
theorem one_news (W : World) (c : UInt8) (x : Int) (hx : x = (c.toNat : Int)) (t : TypeId) : ∀ j u, ([c].map byteV)[j]? = some u → (W.alloc (.cells #[.int .u8 x] t)).cell? ((⟨W.heap.size, 0, none⟩ : Addr).add j) = some u := by
  intro j u hj
  match j with
  | 0 =>
    simp at hj
    rw [← hj, Addr.add_lit, hx]
    unfold byteV
    simp [go_sem]
  | j + 1 => simp at hj
/-- The writing of a segment: its elements, and the bytes so far. -/
structure TextAt (w wx : World) (v vb : Value) (E : List (List (List UInt8))) (l : List UInt8) : Prop where
  row : ByteRow wx (w.heap.size + 1) 5 vb l
  cell : wx.cell? ⟨w.heap.size, 1, none⟩ = some v
  els : ElemsIn (Has_ w) wx v E
  below : Below w.heap.size w wx
  lt : w.heap.size + 1 ≤ wx.heap.size
theorem TextAt.grown {w wx w1 : World} {v vb vb1 : Value} {E : List (List (List UInt8))} {l l1 : List UInt8} (h : TextAt w wx v vb E l) (hr : ByteRow w1 (w.heap.size + 1) 5 vb1 l1) (hg : wx.grownBy w1 vb.ownBlock) : TextAt w w1 v vb1 E l1 := by
  have hlt := h.lt
  have hne : ∀ b, b ≤ w.heap.size → some b ≠ vb.ownBlock := fun b hb e => by
    have := (h.row.lt b e.symm).1
    omega
  have hbl : ∀ b, b ≤ w.heap.size → w1.heap[b]? = wx.heap[b]? := fun b hb => hg.block b (by omega) (hne b hb)
  refine ⟨hr, (World.cell?_of_block (a := ⟨w.heap.size, 1, none⟩) (hbl _ (Nat.le_refl _))).trans h.cell, h.els.keep fun b hb => ⟨hb, hbl b (Nat.le_of_lt hb)⟩, ?_, Nat.le_trans hlt hg.size⟩
  exact ⟨hg.os.trans h.below.os, hg.tape.trans h.below.tape, hg.output.trans h.below.output, Nat.le_trans h.below.size hg.size, fun b hb => (hbl b (Nat.le_of_lt hb)).trans (h.below.block b hb)⟩
theorem TextAt.alloc {w wx : World} {v vb : Value} {E : List (List (List UInt8))} {l : List UInt8} (h : TextAt w wx v vb E l) (o : Obj) : TextAt w (wx.alloc o) v vb E l :=
  h.grown (h.row.keep ((Below.refl _ _).alloc (Nat.le_refl _) _)) (World.grownBy_alloc wx o _)

theorem TextAt.at1 {w wx : World} {v vb : Value} {E : List (List (List UInt8))} {l : List UInt8} (h : TextAt w wx v vb E l) {i : Nat} {e : List (List UInt8)} (he : E[i]? = some e) :
    ∃ a0 cap bo cap3, v = .slice (some a0) E.length cap ∧ wx.cell? (a0.add i) = some (.slice bo e.length cap3) ∧ e.length ≤ maxLen := by
  obtain ⟨ao, cap, rfl, _, hEa⟩ := h.els.form
  obtain ⟨a0, u0, rfl, hc0, hS⟩ := hEa i e he
  obtain ⟨bo, cap3, rfl, hel, _⟩ := hS.form
  exact ⟨a0, cap, bo, cap3, rfl, hc0, hel⟩
theorem TextAt.at2 {w wx : World} {v vb : Value} {E : List (List (List UInt8))} {l : List UInt8} (h : TextAt w wx v vb E l) {i k : Nat} {e : List (List UInt8)} {x : List UInt8} (he : E[i]? = some e) (hx : e[k]? = some x) :
    ∃ a0 cap b0 cap3, v = .slice (some a0) E.length cap ∧ wx.cell? (a0.add i) = some (.slice (some b0) e.length cap3) ∧ wx.cell? (b0.add k) = some (strV x) ∧ x.length ≤ maxLen := by
  obtain ⟨ao, cap, rfl, _, hEa⟩ := h.els.form
  obtain ⟨a0, u0, rfl, hc0, hS⟩ := hEa i e he
  obtain ⟨bo, cap3, rfl, hel, hea⟩ := hS.form
  obtain ⟨b0, rfl, hck, hxl⟩ := hea k x hx
  exact ⟨a0, cap, b0, cap3, rfl, hc0, hck, hxl⟩

set_option maxRecDepth 100000 in
set_option maxHeartbeats 1600000 in
theorem refText_any (t : List UInt8) (ht : t.length ≤ 1000) (v : Value) (E : List (List (List UInt8))) (w : World) (h : ElemsIn (Has_ w) w v E) (hT : (encS ⟨t, E⟩).length ≤ 10000000000000) :
    Calls Try.prog 29 #[.agg #[strV t, v]] w fun e w' => e = .returned (strV (encS ⟨t, E⟩)) ∧ Below w.heap.size w w' := by
  obtain ⟨i0, hi, hz0, hz1, hz2⟩ := info_parts info_byte
  have q1 : (w.alloc (.cells #[strV t, v] 24)).cell? ⟨w.heap.size, 1, none⟩ = some v := by simp [go_sem]
  have hB0 : Below w.heap.size w (w.alloc (.cells #[strV t, v] 24)) := (Below.refl _ _).alloc (Nat.le_refl _) _
  have hsz : (w.alloc (.cells #[strV t, v] 24)).heap.size = w.heap.size + 1 := by simp [go_sem]
  obtain ⟨w1, hr, hrow, hb1, hsz1⟩ := run_bytes_of_text (P := Try.prog) (w.alloc (.cells #[strV t, v] 24)) 9 32 5 t Try.underlying9 Try.underlying32 Try.underlying5 (by unfold maxLen; omega)
  rw [hsz] at hr hrow hsz1
  have hA0 : TextAt w w1 v (.slice (some ⟨w.heap.size + 1, 0, none⟩) t.length (grownCap (w.alloc (.cells #[strV t, v] 24)) t.length 0 5)) E t :=
    ⟨hrow, (hb1.cell (p := ⟨w.heap.size, 1, none⟩) (by show w.heap.size < _; omega)).trans q1, h.keep fun b hb => ⟨hb, (hb1.block b (by show b < _; have : b < w.heap.size := hb; omega)).trans (hB0.block b hb)⟩, hB0.trans (hb1.mono hB0.size), by omega⟩
  obtain ⟨T, hTT⟩ : ∃ T, T = encS ⟨t, E⟩ := ⟨_, rfl⟩
  have hF := Lib.hid (show T = t ++ (encEls (E.drop 0) ++ [39]) by rw [hTT]; unfold encS bodyS; simp)
  rw [← hTT] at hT ⊢
  clear hTT h q1 hB0 hsz hrow hb1 hsz1
  have HA0 := Lib.hid hA0
  clear hA0
  go_enter Try.func29, Try.ntmps29
  go_wp2_with fail
  clear hr
  generalize grownCap (w.alloc (.cells #[strV t, v] 24)) t.length 0 5 = cap0 at *
  go_loopw [3, 4] (fun vb vi wx => ∃ (u : Value) (l : List UInt8) (i : Nat), u = vb ∧ vi = .int .i64 i ∧ i ≤ E.length ∧ Hid (T = l ++ (encEls (E.drop i) ++ [39])) ∧ Hid (TextAt w wx v u E l)) (fun _ vi _ => E.length - (intOf vi).toNat)
  case atStart => exact ⟨_, t, 0, rfl, by go_num, by omega, hF, HA0⟩
  case round =>
    clear hF HA0
    obtain ⟨u, l, i, rfl, rfl, hi', hF, HA⟩ := hrel
    obtain ⟨ao, cap, rfl, hEl, hEa⟩ := HA.out.els.form
    have hEb : E.length ≤ 9223372036854775807 := by unfold maxLen at hEl; omega
    have q1 := HA.out.cell
    by_cases hlt : i < E.length
    · obtain ⟨e, he⟩ : ∃ e, E[i]? = some e := ⟨_, List.getElem?_eq_getElem hlt⟩
      have hst := els_step he
      have d1 : decide ((i : Int) < (E.length : Int)) = true := decide_eq_true (by omega)
      have HAa := Lib.hid (HA.out.alloc (.cells #[.int .u8 43] 5))
      have hF2 := Lib.hid (show T = (l ++ [43]) ++ ((moreE 0 (e.drop 0) ++ encEls (E.drop (i + 1))) ++ [39]) by rw [hF.out, hst]; simp)
      have hl1 : l.length + 1 ≤ 100000000000000 := by
        have := congrArg List.length hF2.out
        simp only [List.length_append, List.length_cons, List.length_nil] at this
        omega
      clear hF hst HA hEa
      go_wp2_with (at_builtin; refine wpList_append_bytes rfl _ _ 32 rfl (w.heap.size + 1) 5 i0 Try.underlying32 hi hz0 hz1 hz2 _ l rfl HAa.out.row ⟨wr.heap.size, 0, none⟩ 1 [43] rfl (one_news wr 43 43 rfl 5) hl1 (by have := HAa.out.lt; exact this) ?_)
      intro vb1 w2 hr2 hg2
      have HA2 := Lib.hid (HAa.out.grown hr2 hg2)
      clear hr2 hg2 HAa hl1 q1
      have hel : e.length ≤ maxLen := by
        obtain ⟨_, _, _, _, _, _, h⟩ := HA2.out.at1 he
        exact h
      have heb : e.length ≤ 9223372036854775807 := by unfold maxLen at hel; omega
      go_wp2_with fail
      go_loopw [3, 5] (fun vb vk wx => ∃ (u : Value) (l : List UInt8) (k : Nat), u = vb ∧ vk = .int .i64 k ∧ k ≤ e.length ∧ Hid (T = l ++ ((moreE k (e.drop k) ++ encEls (E.drop (i + 1))) ++ [39])) ∧ Hid (TextAt w wx (.slice ao E.length cap) u E l)) (fun _ vk _ => e.length - (intOf vk).toNat)
      case atStart => exact ⟨_, _, 0, rfl, by go_num, by omega, hF2, HA2⟩
      case round =>
        clear hF2 HA2
        obtain ⟨u, l, k, rfl, rfl, hk', hF, HA⟩ := hrel
        have q1 := HA.out.cell
        by_cases hkt : k < e.length
        · obtain ⟨x, hx⟩ : ∃ x, e[k]? = some x := ⟨_, List.getElem?_eq_getElem hkt⟩
          obtain ⟨a0, cap2, b0, cap3, hv2, hc0, hck, hxl⟩ := HA.out.at2 he hx
          cases hv2
          have d2 : decide ((k : Int) < (e.length : Int)) = true := decide_eq_true (by omega)
          have hst := more_step hx
          have hxb : x.length ≤ 9223372036854775807 := by unfold maxLen at hxl; omega
          unfold strV at hck
          by_cases hk0 : k = 0
          · have hF2 := Lib.hid (show T = l ++ ((esc (x.drop 0) ++ (moreE (k + 1) (e.drop (k + 1)) ++ encEls (E.drop (i + 1)))) ++ [39]) by rw [hF.out, hst, if_pos hk0]; simp)
            have d3 : decide (0 < (k : Int)) = false := decide_eq_false (by omega)
            have d4 : decide (0 < k) = false := decide_eq_false (by omega)
            clear hF hst hk0
            go_wp2_with fail
            go_loopw [3, 7] (fun vb vj wx => ∃ (u : Value) (l : List UInt8) (j : Nat), u = vb ∧ vj = .int .i64 j ∧ j ≤ x.length ∧ Hid (T = l ++ ((esc (x.drop j) ++ (moreE (k + 1) (e.drop (k + 1)) ++ encEls (E.drop (i + 1)))) ++ [39])) ∧ Hid (TextAt w wx (.slice (some a0) E.length cap) u E l)) (fun _ vj _ => x.length - (intOf vj).toNat)
            case atStart => exact ⟨_, _, 0, rfl, by go_num, by omega, hF2, HA⟩
            case round =>
              clear hF2 HA hc0 hck q1
              obtain ⟨u, l, j, rfl, rfl, hj', hF, HA⟩ := hrel
              by_cases hjt : j < x.length
              · have hjs : j < (⟨x.toArray⟩ : ByteArray).size := by show j < x.toArray.size; simpa using hjt
                have hx2 : x[j]? = some ((⟨x.toArray⟩ : ByteArray)[j]'hjs) := by
                  rw [List.getElem?_eq_getElem hjt]
                  rfl
                have hst := esc_step hx2
                have HSp := Lib.hid (refSpecial_any ((⟨x.toArray⟩ : ByteArray)[j]'hjs))
                have hT2 : l.length + 2 ≤ 100000000000000 := by
                  have := congrArg List.length hF.out
                  rw [List.length_append] at this
                  omega
                have hl1 : l.length + 1 ≤ 100000000000000 := by omega
                have hl2 : (l ++ [63]).length + 1 ≤ 100000000000000 := by rw [List.length_append]; show l.length + 1 + 1 ≤ _; omega
                unfold byteV at HSp
                cases hsp : spB ((⟨x.toArray⟩ : ByteArray)[j]'hjs) with
                | true =>
                  rw [hsp] at HSp hst
                  have hF3 := Lib.hid (show T = (l ++ [63, (⟨x.toArray⟩ : ByteArray)[j]'hjs]) ++ ((esc (x.drop (j + 1)) ++ (moreE (k + 1) (e.drop (k + 1)) ++ encEls (E.drop (i + 1)))) ++ [39]) by rw [hF.out, hst]; simp)
                  have HAa := Lib.hid (HA.out.alloc (.cells #[.int .u8 63] 5))
                  clear hF hst HA hsp hx2
                  go_wp2_with fail
                  refine (HSp.out _).mono ?_
                  rintro e3 w3 ⟨rfl, rfl⟩
                  go_wp2_with (at_builtin; refine wpList_append_bytes rfl _ _ 32 rfl (w.heap.size + 1) 5 i0 Try.underlying32 hi hz0 hz1 hz2 _ l rfl HAa.out.row ⟨wr.heap.size, 0, none⟩ 1 [63] rfl (one_news wr 63 63 rfl 5) hl1 (by have := HAa.out.lt; exact this) ?_)
                  intro vb3 w3 hr3 hg3
                  have HA3 := Lib.hid ((HAa.out.grown hr3 hg3).alloc (.cells #[.int .u8 (((⟨x.toArray⟩ : ByteArray)[j]'hjs).toNat : Int)] 5))
                  clear HAa hr3 hg3
                  go_wp2_with (at_builtin; refine wpList_append_bytes rfl _ _ 32 rfl (w.heap.size + 1) 5 i0 Try.underlying32 hi hz0 hz1 hz2 _ (l ++ [63]) rfl HA3.out.row ⟨w3.heap.size, 0, none⟩ 1 [((⟨x.toArray⟩ : ByteArray)[j]'hjs)] rfl (one_news w3 ((⟨x.toArray⟩ : ByteArray)[j]'hjs) _ rfl 5) hl2 (by have := HA3.out.lt; exact this) ?_)
                  intro vb4 w4 hr4 hg4
                  have HA4 := Lib.hid (HA3.out.grown hr4 hg4)
                  clear HA3 hr4 hg4
                  go_wp2_with fail
                  go_roundw
                  case rel => exact ⟨_, _, j + 1, rfl, by go_num, by omega, hF3, HA4⟩
                  case measure => simp [intOf]; omega
                | false =>
                  rw [hsp] at HSp hst
                  have hF3 := Lib.hid (show T = (l ++ [(⟨x.toArray⟩ : ByteArray)[j]'hjs]) ++ ((esc (x.drop (j + 1)) ++ (moreE (k + 1) (e.drop (k + 1)) ++ encEls (E.drop (i + 1)))) ++ [39]) by rw [hF.out, hst]; simp)
                  have HAa := Lib.hid (HA.out.alloc (.cells #[.int .u8 (((⟨x.toArray⟩ : ByteArray)[j]'hjs).toNat : Int)] 5))
                  clear hF hst HA hsp hx2
                  go_wp2_with fail
                  refine (HSp.out _).mono ?_
                  rintro e3 w3 ⟨rfl, rfl⟩
                  go_wp2_with (at_builtin; refine wpList_append_bytes rfl _ _ 32 rfl (w.heap.size + 1) 5 i0 Try.underlying32 hi hz0 hz1 hz2 _ l rfl HAa.out.row ⟨wr.heap.size, 0, none⟩ 1 [((⟨x.toArray⟩ : ByteArray)[j]'hjs)] rfl (one_news wr ((⟨x.toArray⟩ : ByteArray)[j]'hjs) _ rfl 5) hl1 (by have := HAa.out.lt; exact this) ?_)
                  intro vb4 w4 hr4 hg4
                  have HA4 := Lib.hid (HAa.out.grown hr4 hg4)
                  clear HAa hr4 hg4
                  go_wp2_with fail
                  go_roundw
                  case rel => exact ⟨_, _, j + 1, rfl, by go_num, by omega, hF3, HA4⟩
                  case measure => simp [intOf]; omega
              · obtain rfl : j = x.length := by omega
                have hF3 := Lib.hid (show T = l ++ ((moreE (k + 1) (e.drop (k + 1)) ++ encEls (E.drop (i + 1))) ++ [39]) by rw [hF.out, List.drop_length]; rfl)
                clear hF
                go_wp2_with fail
                go_roundw
                case rel => exact ⟨_, _, k + 1, rfl, by go_num, by omega, hF3, HA⟩
                case measure => simp [intOf]; omega
          · have hF2 := Lib.hid (show T = (l ++ [58]) ++ ((esc (x.drop 0) ++ (moreE (k + 1) (e.drop (k + 1)) ++ encEls (E.drop (i + 1)))) ++ [39]) by rw [hF.out, hst, if_neg hk0]; simp)
            have d3 : decide (0 < (k : Int)) = true := decide_eq_true (by omega)
            have d4 : decide (0 < k) = true := decide_eq_true (by omega)
            have hT2 : l.length + 2 ≤ 100000000000000 := by
              have := congrArg List.length hF.out
              rw [List.length_append] at this
              omega
            have hl1 : l.length + 1 ≤ 100000000000000 := by omega
            have HAa := Lib.hid (HA.out.alloc (.cells #[.int .u8 58] 5))
            clear hF hst hk0 HA
            go_wp2_with (at_builtin; refine wpList_append_bytes rfl _ _ 32 rfl (w.heap.size + 1) 5 i0 Try.underlying32 hi hz0 hz1 hz2 _ l rfl HAa.out.row ⟨wr.heap.size, 0, none⟩ 1 [58] rfl (one_news wr 58 58 rfl 5) hl1 (by have := HAa.out.lt; exact this) ?_)
            intro vb2 w5 hr5 hg5
            have HA5 := Lib.hid (HAa.out.grown hr5 hg5)
            clear HAa hr5 hg5 q1 hc0 hck
            obtain ⟨a1, cap4, b1, cap5, hv5, hc0, hck, _⟩ := HA5.out.at2 he hx
            cases hv5
            have q1 := HA5.out.cell
            unfold strV at hck
            have HA := HA5
            clear HA5
            go_wp2_with fail
            go_loopw [3, 7] (fun vb vj wx => ∃ (u : Value) (l : List UInt8) (j : Nat), u = vb ∧ vj = .int .i64 j ∧ j ≤ x.length ∧ Hid (T = l ++ ((esc (x.drop j) ++ (moreE (k + 1) (e.drop (k + 1)) ++ encEls (E.drop (i + 1)))) ++ [39])) ∧ Hid (TextAt w wx (.slice (some a0) E.length cap) u E l)) (fun _ vj _ => x.length - (intOf vj).toNat)
            case atStart => exact ⟨_, _, 0, rfl, by go_num, by omega, hF2, HA⟩
            case round =>
              clear hF2 HA hc0 hck q1
              obtain ⟨u, l, j, rfl, rfl, hj', hF, HA⟩ := hrel
              by_cases hjt : j < x.length
              · have hjs : j < (⟨x.toArray⟩ : ByteArray).size := by show j < x.toArray.size; simpa using hjt
                have hx2 : x[j]? = some ((⟨x.toArray⟩ : ByteArray)[j]'hjs) := by
                  rw [List.getElem?_eq_getElem hjt]
                  rfl
                have hst := esc_step hx2
                have HSp := Lib.hid (refSpecial_any ((⟨x.toArray⟩ : ByteArray)[j]'hjs))
                have hT2 : l.length + 2 ≤ 100000000000000 := by
                  have := congrArg List.length hF.out
                  rw [List.length_append] at this
                  omega
                have hl1 : l.length + 1 ≤ 100000000000000 := by omega
                have hl2 : (l ++ [63]).length + 1 ≤ 100000000000000 := by rw [List.length_append]; show l.length + 1 + 1 ≤ _; omega
                unfold byteV at HSp
                cases hsp : spB ((⟨x.toArray⟩ : ByteArray)[j]'hjs) with
                | true =>
                  rw [hsp] at HSp hst
                  have hF3 := Lib.hid (show T = (l ++ [63, (⟨x.toArray⟩ : ByteArray)[j]'hjs]) ++ ((esc (x.drop (j + 1)) ++ (moreE (k + 1) (e.drop (k + 1)) ++ encEls (E.drop (i + 1)))) ++ [39]) by rw [hF.out, hst]; simp)
                  have HAa := Lib.hid (HA.out.alloc (.cells #[.int .u8 63] 5))
                  clear hF hst HA hsp hx2
                  go_wp2_with fail
                  refine (HSp.out _).mono ?_
                  rintro e3 w3 ⟨rfl, rfl⟩
                  go_wp2_with (at_builtin; refine wpList_append_bytes rfl _ _ 32 rfl (w.heap.size + 1) 5 i0 Try.underlying32 hi hz0 hz1 hz2 _ l rfl HAa.out.row ⟨wr.heap.size, 0, none⟩ 1 [63] rfl (one_news wr 63 63 rfl 5) hl1 (by have := HAa.out.lt; exact this) ?_)
                  intro vb3 w3 hr3 hg3
                  have HA3 := Lib.hid ((HAa.out.grown hr3 hg3).alloc (.cells #[.int .u8 (((⟨x.toArray⟩ : ByteArray)[j]'hjs).toNat : Int)] 5))
                  clear HAa hr3 hg3
                  go_wp2_with (at_builtin; refine wpList_append_bytes rfl _ _ 32 rfl (w.heap.size + 1) 5 i0 Try.underlying32 hi hz0 hz1 hz2 _ (l ++ [63]) rfl HA3.out.row ⟨w3.heap.size, 0, none⟩ 1 [((⟨x.toArray⟩ : ByteArray)[j]'hjs)] rfl (one_news w3 ((⟨x.toArray⟩ : ByteArray)[j]'hjs) _ rfl 5) hl2 (by have := HA3.out.lt; exact this) ?_)
                  intro vb4 w4 hr4 hg4
                  have HA4 := Lib.hid (HA3.out.grown hr4 hg4)
                  clear HA3 hr4 hg4
                  go_wp2_with fail
                  go_roundw
                  case rel => exact ⟨_, _, j + 1, rfl, by go_num, by omega, hF3, HA4⟩
                  case measure => simp [intOf]; omega
                | false =>
                  rw [hsp] at HSp hst
                  have hF3 := Lib.hid (show T = (l ++ [(⟨x.toArray⟩ : ByteArray)[j]'hjs]) ++ ((esc (x.drop (j + 1)) ++ (moreE (k + 1) (e.drop (k + 1)) ++ encEls (E.drop (i + 1)))) ++ [39]) by rw [hF.out, hst]; simp)
                  have HAa := Lib.hid (HA.out.alloc (.cells #[.int .u8 (((⟨x.toArray⟩ : ByteArray)[j]'hjs).toNat : Int)] 5))
                  clear hF hst HA hsp hx2
                  go_wp2_with fail
                  refine (HSp.out _).mono ?_
                  rintro e3 w3 ⟨rfl, rfl⟩
                  go_wp2_with (at_builtin; refine wpList_append_bytes rfl _ _ 32 rfl (w.heap.size + 1) 5 i0 Try.underlying32 hi hz0 hz1 hz2 _ l rfl HAa.out.row ⟨wr.heap.size, 0, none⟩ 1 [((⟨x.toArray⟩ : ByteArray)[j]'hjs)] rfl (one_news wr ((⟨x.toArray⟩ : ByteArray)[j]'hjs) _ rfl 5) hl1 (by have := HAa.out.lt; exact this) ?_)
                  intro vb4 w4 hr4 hg4
                  have HA4 := Lib.hid (HAa.out.grown hr4 hg4)
                  clear HAa hr4 hg4
                  go_wp2_with fail
                  go_roundw
                  case rel => exact ⟨_, _, j + 1, rfl, by go_num, by omega, hF3, HA4⟩
                  case measure => simp [intOf]; omega
              · obtain rfl : j = x.length := by omega
                have hF3 := Lib.hid (show T = l ++ ((moreE (k + 1) (e.drop (k + 1)) ++ encEls (E.drop (i + 1))) ++ [39]) by rw [hF.out, List.drop_length]; rfl)
                clear hF
                go_wp2_with fail
                go_roundw
                case rel => exact ⟨_, _, k + 1, rfl, by go_num, by omega, hF3, HA⟩
                case measure => simp [intOf]; omega
        · obtain rfl : k = e.length := by omega
          have hF2 := Lib.hid (show T = l ++ (encEls (E.drop (i + 1)) ++ [39]) by rw [hF.out, List.drop_length]; simp [moreE])
          obtain ⟨a0, cap2, bo, cap3, hv2, hc0, _⟩ := HA.out.at1 he
          cases hv2
          clear hF
          go_wp2_with fail
          go_roundw
          case rel => exact ⟨_, _, i + 1, rfl, by go_num, by omega, hF2, HA⟩
          case measure => simp [intOf]; omega
    · obtain rfl : i = E.length := by omega
      have hF2 := Lib.hid (show T = l ++ [39] by rw [hF.out, List.drop_length]; rfl)
      have hl1 : l.length + 1 ≤ 100000000000000 := by
        have := congrArg List.length hF2.out
        rw [List.length_append] at this
        have h1 : ([39] : List UInt8).length = 1 := rfl
        omega
      have HAa := Lib.hid (HA.out.alloc (.cells #[.int .u8 39] 5))
      clear hF HA hEa
      go_wp2_with (at_builtin; refine wpList_append_bytes rfl _ _ 32 rfl (w.heap.size + 1) 5 i0 Try.underlying32 hi hz0 hz1 hz2 _ l rfl HAa.out.row ⟨wr.heap.size, 0, none⟩ 1 [39] rfl (one_news wr 39 39 rfl 5) hl1 (by have := HAa.out.lt; exact this) ?_)
      intro vb2 w5 hr5 hg5
      have HA5 := Lib.hid (HAa.out.grown hr5 hg5)
      have hcv := run_text_of_cells (P := Try.prog) w5 32 9 5 vb2 _ Try.underlying32 Try.underlying5 Try.underlying9 hr5.cells
      rw [← hF2.out] at hcv
      clear HAa hr5 hg5 q1
      go_wp2_with fail
      go_ret
      exact ⟨rfl, HA5.out.below⟩
end Go.Proofs.Ytenlfapdmknkjaa
