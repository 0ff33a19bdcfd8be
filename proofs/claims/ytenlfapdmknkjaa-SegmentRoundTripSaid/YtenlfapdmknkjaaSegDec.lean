/- What Decode of the reference of layer 6 returns: the segments of the bytes. Condition: the bytes' cells are known, and there are not too many. -/
import Derived.Test.YtenlfapdmknkjaaSegNext
namespace Go.Proofs.Ytenlfapdmknkjaa
open Go.RowKit

theorem NotSeg.turn {w w1 : World} {b : Nat} (h : NotSeg w b) (ht : TurnsTy 24 w w1) : NotSeg w1 b ∧ w1.heap[b]? = w.heap[b]? := by
  obtain ⟨cs, t, fz, h1, hne⟩ := h
  have e := ht.block b cs t fz h1 hne
  exact ⟨⟨cs, t, fz, e.trans h1, hne⟩, e⟩
/-- What was decoded so far. -/
structure DecAt (w wx : World) (vl : Value) (us : List Value) (acc : List Seg) : Prop where
  row : wx.ownsRow w.heap.size 24 2 vl acc.length us
  segs : ∀ (i : Nat) (s : Seg), acc[i]? = some s → us[i * 2]? = some (strV s.tag) ∧ s.tag.length ≤ maxLen ∧ ∃ u, us[i * 2 + 1]? = some u ∧ ElemsIn (NotSeg wx) wx u s.els
  below : Below w.heap.size w wx
theorem DecAt.keep {w wx w1 : World} {vl : Value} {us : List Value} {acc : List Seg} (h : DecAt w wx vl us acc) (hb : Below wx.heap.size wx w1) : DecAt w w1 vl us acc :=
  ⟨(TurnsTy.of_below (t := 5) hb).own h.row (by decide), fun i s hi => by
    obtain ⟨h1, h2, u, h3, h4⟩ := h.segs i s hi
    exact ⟨h1, h2, u, h3, h4.keep fun _ hb1 => hb1.keep hb⟩, h.below.trans (hb.mono h.below.size)⟩
theorem DecAt.push {w wx w1 : World} {vl v1 x : Value} {us : List Value} {acc : List Seg} {s : Seg} (h : DecAt w wx vl us acc) (hr : w1.ownsRow w.heap.size 24 2 v1 (acc.length + 1) (us ++ [strV s.tag, x])) (hg : wx.grownBy w1 vl.ownBlock)
    (hx : ElemsIn (NotSeg wx) wx x s.els) (hs : s.tag.length ≤ maxLen) : DecAt w w1 v1 (us ++ [strV s.tag, x]) (acc ++ [s]) := by
  have ht := TurnsTy.of_grown hg (own_ty h.row)
  have hl : us.length = acc.length * 2 := h.row.1
  refine ⟨by simpa using hr, fun i s1 hi => ?_, below_grown h.below hg fun k hk => (h.row.lt k hk).1⟩
  by_cases hlt : i < acc.length
  · rw [List.getElem?_append_left hlt] at hi
    obtain ⟨h1, h2, u, h3, h4⟩ := h.segs i s1 hi
    refine ⟨by rw [List.getElem?_append_left (by omega)]; exact h1, h2, u, by rw [List.getElem?_append_left (by omega)]; exact h3, h4.keep fun _ hb1 => hb1.turn ht⟩
  · have hlt2 := (List.getElem?_eq_some_iff.1 hi).1
    rw [List.length_append] at hlt2
    have h1 : ([s] : List Seg).length = 1 := rfl
    obtain rfl : i = acc.length := by omega
    rw [List.getElem?_append_right (Nat.le_refl _)] at hi
    simp at hi
    subst hi
    refine ⟨?_, hs, x, ?_, hx.keep fun _ hb1 => hb1.turn ht⟩
    · rw [← hl, List.getElem?_append_right (Nat.le_refl _)]
      simp
    · rw [← hl, List.getElem?_append_right (by omega)]
      simp
theorem DecAt.done {w wx : World} {vl : Value} {us : List Value} {acc : List Seg} (h : DecAt w wx vl us acc) : SegsIn (Has_ wx) wx vl acc :=
  ⟨us, (CellsIn.own h.row).keep fun b hb => ⟨hb.2.1, rfl⟩, fun i s hi => by
    obtain ⟨h1, h2, u, h3, h4⟩ := h.segs i s hi
    exact ⟨h1, h2, u, h3, h4.keep fun b hb1 => ⟨hb1.has, rfl⟩⟩⟩
theorem BytesIn.drop {p : Nat → Prop} {w : World} {a : Addr} {len cap n : Nat} {b : List UInt8} (h : BytesIn p w (.slice (some a) len cap) b) (hn : n ≤ b.length) : BytesIn p w (.slice (some (a.add n)) (b.length - n) (cap - n)) (b.drop n) := by
  refine ⟨by simp, ?_⟩
  obtain ⟨_, ⟨h1, _⟩ | ⟨a2, cap2, h2, h3, h4, h5, h6⟩⟩ := h
  · cases h1
  · injection h2 with e1 e2 e3
    injection e1 with e1
    subst e1 e3
    refine .inr ⟨a.add n, cap - n, by rw [List.length_drop], by rw [List.length_drop]; omega, by omega, fun h0 => by rw [add_block]; rw [List.length_drop] at h0; exact h5 (by omega), fun j u hj => ?_⟩
    rw [Addr.add_add]
    refine h6 (n + j) u ?_
    rw [List.getElem?_map] at hj ⊢
    rw [List.getElem?_drop] at hj
    exact hj
theorem info_seg : (Try.prog.info? 24).map (fun i => (i.zero, i.size, i.bytes)) = some (some (.agg #[.string ⟨#[]⟩, .slice none 0 0]), 2, 40) := by kernel_rfl
theorem news_two (w1 : World) (t : List UInt8) (x : Value) : ∀ j u, ([strV t, x] : List Value)[j]? = some u → (w1.alloc (.cells #[.string ⟨t.toArray⟩, x] 24)).cell? ((⟨w1.heap.size, 0, none⟩ : Addr).add j) = some u := by
  intro j u hj
  obtain ⟨c0, c1⟩ := (box_at w1 t x).cells
  match j with
  | 0 =>
    simp at hj
    rw [← hj, Addr.add_lit]
    exact c0
  | 1 =>
    simp at hj
    rw [← hj, Addr.add_lit]
    exact c1
  | j + 2 => simp at hj

set_option maxRecDepth 100000 in
set_option maxHeartbeats 3200000 in
theorem refDecode_any (v : Value) (b : List UInt8) (w : World) (h : BytesIn (Has_ w) w v b) (hb : b.length ≤ 1000000000) :
    Calls Try.prog 19 #[v] w fun e w' => ∃ x, e = .returned (.tuple #[x, .int .i64 (decodeF b).2.1, .int .i64 (decodeF b).2.2]) ∧ SegsIn (Has_ w') w' x (decodeF b).1 ∧ Below w.heap.size w w' := by
  obtain ⟨ao, cap, rfl, hbc⟩ := h.form
  have HI := Lib.hid h
  obtain ⟨R, hR⟩ : ∃ R, R = decodeF b := ⟨_, rfl⟩
  have HR := Lib.hid (show ∃ f, b.length - 0 ≤ f ∧ decF f (b.drop 0) 0 [] = R from ⟨b.length, Nat.le_refl _, hR.symm⟩)
  rw [← hR]
  clear hR h hbc
  go_enter Try.func19, Try.ntmps19
  go_wp2_with fail
  go_loopw [5, 6] (fun vl va wx => ∃ (u : Value) (at_ : Nat) (us : List Value) (acc : List Seg), u = vl ∧ va = .int .i64 at_ ∧ at_ ≤ b.length ∧ acc.length ≤ at_ ∧ Hid (∃ f, b.length - at_ ≤ f ∧ decF f (b.drop at_) at_ acc = R) ∧ Hid (DecAt w wx u us acc)) (fun _ va _ => b.length - (intOf va).toNat)
  case atStart => exact ⟨_, 0, [], [], rfl, by go_num, by omega, Nat.zero_le _, HR, Lib.hid ⟨World.ownsRow_nil _ _ _ _, fun i s hi => by simp at hi, Below.refl _ _⟩⟩
  case round =>
    clear HR
    obtain ⟨u, at_, us, acc, rfl, rfl, hat, hac, HF, HD⟩ := hrel
    by_cases hlt : at_ < b.length
    · have d1 : decide ((at_ : Int) < (b.length : Int)) = true := decide_eq_true (by omega)
      have HI1 := Lib.hid (HI.out.keep HD.out.below)
      obtain ⟨a, rfl⟩ : ∃ a, ao = some a := by
        obtain ⟨_, ⟨_, h1⟩ | ⟨a2, cap2, h2, _⟩⟩ := HI.out
        · omega
        · injection h2 with e1
          exact ⟨a2, e1⟩
      have hcap := HI.out.cap
      have j1 : (0 : Int) ≤ (at_ : Int) := by omega
      have j2 : (at_ : Int) ≤ (b.length : Int) := by omega
      have j3 : cap - at_ ≠ 0 := by omega
      have hdl : (b.drop at_).length = b.length - at_ := List.length_drop
      obtain ⟨f, hf1, hf2⟩ := HF.out
      obtain ⟨f, rfl⟩ : ∃ g, f = g + 1 := ⟨f - 1, by omega⟩
      have hne : b.drop at_ ≠ [] := fun e => by rw [e] at hdl; simp at hdl; omega
      have HC := Lib.hid (refNext_any _ _ wr (HI1.out.drop hat) (by omega))
      have HD1 := HD
      by_cases hok : (nextF (b.drop at_)).2.2 = 0
      · rw [dec_ok hne hok, List.drop_drop] at hf2
        have hn := next_ok (b := b.drop at_) (s := (nextF (b.drop at_)).1) (n := (nextF (b.drop at_)).2.1) (by rw [← hok])
        obtain ⟨hn1, _, hn2, hn3⟩ := hn
        rw [hdl] at hn3
        have HF2 := Lib.hid (show ∃ f, b.length - (at_ + (nextF (b.drop at_)).2.1) ≤ f ∧ decF f (b.drop (at_ + (nextF (b.drop at_)).2.1)) (at_ + (nextF (b.drop at_)).2.1) (acc ++ [(nextF (b.drop at_)).1]) = R from ⟨f, by omega, hf2⟩)
        rw [hok] at HC
        clear hf1 hf2 HF hok HI HI1 hne hdl
        generalize nextF (b.drop at_) = N at *
        obtain ⟨S, n, e9⟩ := N
        dsimp only at *
        clear e9
        go_wp2_with fail
        refine HC.out.mono ?_
        rintro e w1 ⟨x, rfl, hx, hb1⟩
        obtain ⟨xo, xc, rfl, _⟩ := hx.form
        have htl : S.tag.length ≤ maxLen := by
          obtain ⟨b1, b2, b3, ht, _⟩ := tag_shape (seg_ok hn1).1
          rw [ht]
          show 3 ≤ maxLen
          unfold maxLen
          omega
        have hBx := box_at w1 S.tag (.slice xo S.els.length xc)
        obtain ⟨c0, c1⟩ := hBx.cells
        have hsz : (w1.alloc (.cells #[.string ⟨S.tag.toArray⟩, .slice xo S.els.length xc] 24)).heap.size = w1.heap.size + 1 := by simp
        have hBy := box_at (w1.alloc (.cells #[.string ⟨S.tag.toArray⟩, .slice xo S.els.length xc] 24)) S.tag (.slice xo S.els.length xc)
        have HX := Lib.hid ((hx.keep fun _ hb2 => hb2.keep hBx.below).keep fun _ hb2 => NotSeg.keep hb2 hBy.below)
        have HD2 := Lib.hid (((HD.out.keep hb1).keep hBx.below).keep hBy.below)
        have hnn := news_two (w1.alloc (.cells #[.string ⟨S.tag.toArray⟩, .slice xo S.els.length xc] 24)) S.tag (.slice xo S.els.length xc)
        rw [hsz] at hnn
        obtain ⟨i1, hj, hy0, hy1, hy2⟩ := info_parts info_seg
        clear hx hb1 HC HD HD1 hBx hBy hn1 hsz
        unfold strV
        go_wp2_with (at_builtin; refine wpList_append_own _ rfl _ _ 30 rfl w.heap.size 24 i1 (.agg #[.string ⟨#[]⟩, .slice none 0 0]) 2 40 Try.underlying30 hj hy0 hy1 hy2 rfl (by decide) _ acc.length us rfl HD2.out.row ⟨w1.heap.size + 1, 0, none⟩ 1 1 [strV S.tag, Value.slice xo S.els.length xc] rfl rfl hnn (by intro u hu; simp at hu; rcases hu with rfl | rfl <;> rfl) (by unfold maxLen; omega) (by omega) HD2.out.below.size ?_)
        intro v1 w3 hown3 hg3 _
        have HD3 := Lib.hid (HD2.out.push hown3 hg3 HX.out htl)
        clear HD2 HX hown3 hg3 hnn
        go_wp2_with fail
        go_roundw
        case rel => exact ⟨_, at_ + n, _, acc ++ [S], rfl, by go_num, by omega, by rw [List.length_append]; show acc.length + 1 ≤ _; omega, HF2, HD3⟩
        case measure => simp [intOf]; omega
      · rw [dec_bad hne hok] at hf2
        have HR2 := Lib.hid hf2
        clear hf1 hf2 HF HI HI1 hne hdl
        generalize nextF (b.drop at_) = N at *
        obtain ⟨S, n, e9⟩ := N
        dsimp only at *
        have d2 : (e9 != 0) = true := by rw [bne_iff_ne]; exact hok
        go_wp2_with fail
        refine HC.out.mono ?_
        rintro e w1 ⟨x, rfl, hx, hb1⟩
        obtain ⟨xo, xc, rfl, _⟩ := hx.form
        have HD2 := Lib.hid ((HD.out.keep hb1).keep (box_at w1 S.tag (.slice xo S.els.length xc)).below)
        clear hx hb1 HC HD HD1
        unfold strV
        go_wp2_with fail
        simp [bodyPost, results, Try.results19, go_sem]
        rw [← HR2.out]
        exact ⟨_, ⟨rfl, by simp⟩, ⟨[], ⟨rfl, .inl ⟨rfl, rfl⟩⟩, fun i s hi => by simp at hi⟩, HD2.out.below⟩
    · obtain rfl : at_ = b.length := by omega
      have d1 : decide ((b.length : Int) < (b.length : Int)) = false := decide_eq_false (by omega)
      obtain ⟨f, _, hf⟩ := HF.out
      rw [List.drop_length, dec_nil] at hf
      have HR := Lib.hid hf
      clear HF hf
      go_wp2_with fail
      simp [bodyPost, results, Try.results19, go_sem]
      rw [← HR.out]
      exact ⟨_, ⟨rfl, by simp⟩, HD.out.done, HD.out.below⟩
end Go.Proofs.Ytenlfapdmknkjaa
