/- What the landed Parse and Decode of package message return. Condition: the cells are known, the texts are not too long, the library's variables lie as they were laid. -/
import Derived.Test.YtepkihoakagidaaDoorZLMsgFind
import Derived.Test.YtepkihoakagidaaDoorG4
namespace Go.Proofs.YtepkihoakagidaaDoor
open Go.RowKit

theorem fit_segs {L : List Seg} (h : ∀ s ∈ L, segE s = 0) : fitL L := by
  intro s hs e he
  obtain ⟨_, h2, _⟩ := seg_ok (h s hs)
  unfold longB at h2
  rw [Bool.or_eq_false_iff, List.any_eq_false] at h2
  have h3 := h2.2 e he
  unfold longE at h3
  simp only [Bool.or_eq_true, decide_eq_true_eq, List.any_eq_true, not_or, not_exists, not_and] at h3
  exact ⟨by omega, fun x hx => by have := h3.2 x hx; omega⟩
/-- The result's cells, the message's box, its numbers: found by find. -/
theorem parse_no {L : List Seg} (h : findL L = none) : parseF L = (noMsg, 4) := by
  rw [← parse_land]
  unfold parseL
  rw [h]
theorem parse_some {L : List Seg} {m : Msg} (h : findL L = some m) : parseF L = if atF (L.getLastD noSeg) 0 = [Lib.itoa L.length] then (m, 0) else (noMsg, 11) := by
  rw [← parse_land]
  unfold parseL
  rw [h]
theorem found_last {L : List Seg} {m : Msg} (h : findL L = some m) : ∃ (n : Nat) (t : List UInt8) (e f : List (List UInt8)), L.length = n + 1 ∧ n ≤ 5 ∧ L[n]? = some ⟨t, [e, f]⟩ ∧ L.getLastD noSeg = ⟨t, [e, f]⟩ := by
  obtain ⟨_, e, hL⟩ := find_some.1 h
  have h1 : L.length = (frontS m).length + 1 := by rw [hL]; simp
  have h2 : L[(frontS m).length]? = some ⟨tEND, [e, [Lib.itoa m.num]]⟩ := by rw [hL, List.getElem?_append_right (Nat.le_refl _)]; simp
  exact ⟨(frontS m).length, tEND, e, _, h1, front_len m, h2, lastL_at h1 h2⟩
set_option maxRecDepth 100000 in
set_option maxHeartbeats 6400000 in
theorem lParse_any (v : Value) (L : List Seg) (w : World) (h : SegsIn (Has_ w) w v L) (hf : fitL L) (hL : MErr w) :
    Calls Tryd.prog 21 #[v] w fun e w' => ∃ vl, e = .returned (.tuple #[msgV (parseF L).1 vl, .int .i64 (parseF L).2]) ∧ NumsIn (NewB w w') w' vl (parseF L).1.list ∧ Below w.heap.size w w' := by
  have hb0 : Below w.heap.size w (w.alloc (.cells noCells 24)) := (Below.refl _ _).alloc (Nat.le_refl _) _
  have hres : (w.alloc (.cells noCells 24)).heap[w.heap.size]? = some (.cells noCells 24 (0, 0)) := by
    show (w.heap.push _)[w.heap.size]? = some _
    simp
  have hsz : (w.alloc (.cells noCells 24)).heap.size = w.heap.size + 1 := by simp
  have HR := Lib.hid (lFind_any v L _ (h.later hb0) hf (hL.keep hb0))
  obtain ⟨ao, cap, rfl, hl, _⟩ := h.form
  have hlb : L.length ≤ 9223372036854775807 := by unfold maxLen at hl; omega
  have HSeg := Lib.hid h
  have HLw := Lib.hid hL
  have HB0 := Lib.hid hb0
  have Hres := Lib.hid hres
  have Hsz := Lib.hid hsz
  obtain ⟨Mr, hMr⟩ : ∃ Mr, Mr = (parseF L).1 := ⟨_, rfl⟩
  obtain ⟨er, her⟩ : ∃ er, er = (parseF L).2 := ⟨_, rfl⟩
  rw [← hMr, ← her]
  have Hno := Lib.hid (show findL L = none → Mr = noMsg ∧ er = 4 from fun h => by rw [hMr, her, parse_no h]; exact ⟨rfl, rfl⟩)
  have Hbad := Lib.hid (show ∀ m, findL L = some m → atF (L.getLastD noSeg) 0 ≠ [Lib.itoa L.length] → Mr = noMsg ∧ er = 11 from fun m h h1 => by rw [hMr, her, parse_some h, if_neg h1]; exact ⟨rfl, rfl⟩)
  have Hyes := Lib.hid (show ∀ m, findL L = some m → atF (L.getLastD noSeg) 0 = [Lib.itoa L.length] → Mr = m ∧ er = 0 from fun m h h1 => by rw [hMr, her, parse_some h, if_pos h1]; exact ⟨rfl, rfl⟩)
  clear h hf hL hl hb0 hres hsz hMr her
  unfold noCells at HR HB0 Hres Hsz
  go_enter Tryd.func21, Tryd.ntmps21
  go_wp2_with fail
  generalize w.alloc (.cells #[.int .i64 0, .int .i64 0, .int .i64 0, .int .i64 0, .int .i64 0, .int .i64 0, .int .i64 0, .string ⟨#[]⟩, .string ⟨#[]⟩, .int .i64 0, .int .i64 0, .slice none 0 0, .string ⟨#[]⟩] 24) = W0 at *
  cases hfd : findL L with
  | none =>
    obtain ⟨rfl, rfl⟩ := Hno.out hfd
    have hv : findV L = (noMsg, false) := by unfold findV; rw [hfd]
    rw [hv] at HR
    clear Hno Hbad Hyes hfd hv HSeg HLw
    refine HR.out.mono ?_
    rintro e w1 ⟨vl, rfl, hn, hb⟩
    have hnh := hn.form
    obtain ⟨vo, vc, hv9, _⟩ := hnh
    replace hv9 : vl = .slice vo 0 vc := hv9
    subst hv9
    have hba : Below w1.heap.size w1 (w1.alloc (.cells #[.int .i64 0, .int .i64 0, .int .i64 0, .int .i64 0, .int .i64 0, .int .i64 0, .int .i64 0, .string ⟨#[]⟩, .string ⟨#[]⟩, .int .i64 0, .int .i64 0, .slice vo 0 vc, .string ⟨#[]⟩] 24)) := (Below.refl _ _).alloc (Nat.le_refl _) _
    have hR1 := (hba.block _ (by have := (Array.getElem?_eq_some_iff.1 Hres.out).1; exact Nat.lt_of_lt_of_le this hb.size)).trans ((hb.block _ (Array.getElem?_eq_some_iff.1 Hres.out).1).trans Hres.out)
    have hbl := (HB0.out.trans (hb.mono HB0.out.size)).trans (hba.mono (Nat.le_trans HB0.out.size hb.size))
    obtain ⟨n0, n1, n2, n3, n4, n5, n6, n7, n8, n9, n10, n11, n12⟩ := NoAt.of hR1
    have fr := fun j => NoAt.free hR1 j
    obtain ⟨W9, hW9, hbox, hk, hbw⟩ := no_stored hR1
    have HW9 := Lib.hid hW9
    have Hbox := Lib.hid hbox
    have HD := Lib.hid (hbl.trans (hbw _ (Nat.le_refl _)))
    clear hW9 hbox hk hbw hR1 hbl hba hb hn HR HB0 Hres Hsz
    unfold noMsg msgV strV
    go_wp2_with fail
    rw [← HW9.out]
    obtain ⟨d0, d1, d2, d3, d4, d5, d6, d7, d8, d9, d10, d11, d12⟩ := NoAt.of Hbox.out
    have h2 := HD.out
    have h3 : NumsIn (NewB w W9) W9 (.slice none 0 0) [] := ⟨rfl, .inl ⟨rfl, rfl⟩⟩
    clear n0 n1 n2 n3 n4 n5 n6 n7 n8 n9 n10 n11 n12 fr
    simp [bodyPost, results, Tryd.results21, go_sem, d0, d1, d2, d3, d4, d5, d6, d7, d8, d9, d10, d11, d12]
    first | exact ⟨h3, h2⟩ | exact ⟨_, rfl, h3, h2⟩
  | some M =>
    have hv : findV L = (M, true) := by unfold findV; rw [hfd]
    rw [hv] at HR
    obtain ⟨n, t, el, fl, hn1, hn5, hs, hlast⟩ := found_last hfd
    have Hbad2 := Lib.hid (show el ≠ [Lib.itoa L.length] → Mr = noMsg ∧ er = 11 from fun h => Hbad.out M hfd (by rw [hlast]; exact h))
    have Hyes2 := Lib.hid (show el = [Lib.itoa L.length] → Mr = M ∧ er = 0 from fun h => Hyes.out M hfd (by rw [hlast]; exact h))
    have Hs := Lib.hid hs
    have Hn1 := Lib.hid hn1
    clear Hno Hbad Hyes hfd hv hs hlast
    refine HR.out.mono ?_
    rintro e w1 ⟨vl, rfl, hn, hb⟩
    have hnh := hn.form
    obtain ⟨vo, vc, rfl, _⟩ := hnh
    dsimp only at hn ⊢
    obtain ⟨ln, hln⟩ : ∃ k, M.list.length = k := ⟨_, rfl⟩
    rw [hln] at hn ⊢
    have hba : Below w1.heap.size w1 (w1.alloc (.cells (msgCells M (.slice vo ln vc)) 24)) := (Below.refl _ _).alloc (Nat.le_refl _) _
    have HA := Lib.hid (show FnAt w (w1.alloc (.cells (msgCells M (.slice vo ln vc)) 24)) M (.slice vo ln vc) w1.heap.size from ⟨(HB0.out.trans (hb.mono HB0.out.size)).trans (hba.mono (Nat.le_trans HB0.out.size hb.size)), (hba.block _ (by have := (Array.getElem?_eq_some_iff.1 Hres.out).1; exact Nat.lt_of_lt_of_le this hb.size)).trans ((hb.block _ (Array.getElem?_eq_some_iff.1 Hres.out).1).trans Hres.out), by show (w1.heap.push _)[w1.heap.size]? = some _; simp, NumsIn.keep hn fun b hb1 => ⟨⟨by have := Hsz.out; have := hb1.1; omega, Nat.lt_of_lt_of_le hb1.2 hba.size⟩, hba.block b hb1.2⟩⟩)
    unfold msgCells at HA
    unfold strV at HA
    clear hb hn hba HR HB0 Hres Hsz hln
    obtain ⟨_, _, hq1, _, f1⟩ := (HSeg.out.later HA.out.below).form
    injection hq1 with g1 g2 g3
    subst g1
    clear g2 g3
    obtain ⟨a, va, rfl, k1, k2, x1, _⟩ := f1 n _ Hs.out
    obtain ⟨oa, ca, rfl, _, fx⟩ := x1.form
    obtain ⟨b, ve, rfl, k3, st1⟩ := fx 0 el rfl
    obtain ⟨oe, ce, rfl, _⟩ := st1.form
    have hb0 : b.add 0 = b := by unfold Addr.add; simp
    rw [hb0] at k3
    have hl2 : (⟨t, [el, fl]⟩ : Seg).els.length = 2 := rfl
    rw [hl2] at k2
    obtain ⟨le, hle⟩ : ∃ k, el.length = k := ⟨_, rfl⟩
    rw [hle] at k3 st1
    have Hst := Lib.hid st1
    have e1 : IntKind.i64.wrap ((L.length : Int) - 1) = (n : Int) := by rw [IntKind.wrap_i64]; omega
    have e2 : wrap64 ((L.length : Int) - 1) = (n : Int) := by unfold wrap64; omega
    have j1 : (0 : Int) ≤ (n : Int) := by omega
    have j2 : (n : Int) < (L.length : Int) := by omega
    have HT : Hid (∀ W : World, MLib W → Calls Tryd.prog 41 #[.slice (some ⟨W.heap.size, 0, none⟩) 1 1] (W.alloc (.cells #[.int .i64 (L.length : Int)] 3)) fun e w' => ∃ B, e = .returned (.slice (some ⟨B, 0, none⟩) 1 1) ∧ StrsIn (StrB w') w' (.slice (some ⟨B, 0, none⟩) 1 1) ([(L.length : Int)].map Lib.itoa) ∧ Below W.heap.size W w') := Lib.hid (fun W hL => texts_new [(L.length : Int)] W (by simp) (by intro x hx; rw [List.mem_singleton.1 hx]; exact ⟨by omega, by omega⟩) hL)
    have hsz1 : (w1.alloc (.cells #[.int .i64 M.kind, .int .i64 M.frm, .int .i64 M.to_, .int .i64 M.num, .int .i64 M.day, .int .i64 M.lot, .int .i64 M.other, .string ⟨M.code.toArray⟩, .string ⟨M.ctry.toArray⟩, .int .i64 M.qty, .int .i64 M.amt, .slice vo ln vc, .string ⟨M.text.toArray⟩] 24)).heap.size = w1.heap.size + 1 := by simp
    clear f1 fx x1 st1 Hs Hn1 hle hn1 hl2 hb0 k1
    unfold msgV strV
    go_wp2_with fail
    generalize w1.alloc (.cells #[.int .i64 M.kind, .int .i64 M.frm, .int .i64 M.to_, .int .i64 M.num, .int .i64 M.day, .int .i64 M.lot, .int .i64 M.other, .string ⟨M.code.toArray⟩, .string ⟨M.ctry.toArray⟩, .int .i64 M.qty, .int .i64 M.amt, .slice vo ln vc, .string ⟨M.text.toArray⟩] 24) = W1 at *
    generalize w1.heap.size = B at *
    have hT1 := HT.out W1 (HLw.out.keep HA.out.below).lib
    rw [hsz1] at hT1
    refine hT1.mono ?_
    rintro e w2 ⟨B1, rfl, hst, hb⟩
    rw [← hsz1] at hb
    clear hT1
    have HA2 := Lib.hid (HA.out.keep hb)
    have HQ := Lib.hid (lEqual_any _ _ el [Lib.itoa L.length] w2 (Hst.out.keep (has_keep hb)) hst.has)
    clear hst hb HT HA Hst k2 k3 hsz1
    cases hq : (el == [Lib.itoa L.length]) with
    | false =>
      obtain ⟨rfl, rfl⟩ := Hbad2.out (beq_eq_false_iff_ne.1 hq)
      rw [hq] at HQ
      clear Hbad2 Hyes2 hq
      go_wp2_with fail
      refine HQ.out.mono ?_
      rintro e w3 ⟨rfl, m, rfl⟩
      have HA4 := Lib.hid (HA2.out.keep (below_drewN (Below.refl _ _) m))
      clear HQ HA2
      generalize w2.drewN m = w3 at *
      obtain ⟨n0, n1, n2, n3, n4, n5, n6, n7, n8, n9, n10, n11, n12⟩ := NoAt.of HA4.out.res
      have fr := fun j => NoAt.free HA4.out.res j
      obtain ⟨W9, hW9, hbox, hk, hbw⟩ := no_stored HA4.out.res
      have HW9 := Lib.hid hW9
      have Hbox := Lib.hid hbox
      have HD := Lib.hid (HA4.out.below.trans (hbw _ (Nat.le_refl _)))
      clear hW9 hbox hk hbw HA4
      go_wp2_with fail
      rw [← HW9.out]
      obtain ⟨d0, d1, d2, d3, d4, d5, d6, d7, d8, d9, d10, d11, d12⟩ := NoAt.of Hbox.out
      have h2 := HD.out
      have h3 : NumsIn (NewB w W9) W9 (.slice none 0 0) noMsg.list := ⟨rfl, .inl ⟨rfl, rfl⟩⟩
      clear n0 n1 n2 n3 n4 n5 n6 n7 n8 n9 n10 n11 n12 fr
      unfold noMsg msgV strV
      simp [bodyPost, results, Tryd.results21, go_sem, d0, d1, d2, d3, d4, d5, d6, d7, d8, d9, d10, d11, d12]
      first | exact ⟨h3, h2⟩ | exact ⟨_, rfl, h3, h2⟩
    | true =>
      obtain ⟨rfl, rfl⟩ := Hyes2.out (beq_iff_eq.1 hq)
      rw [hq] at HQ
      clear Hbad2 Hyes2 hq
      go_wp2_with fail
      refine HQ.out.mono ?_
      rintro e w3 ⟨rfl, m, rfl⟩
      have HA4 := Lib.hid (HA2.out.keep (below_drewN (Below.refl _ _) m))
      clear HQ HA2
      generalize w2.drewN m = w3 at *
      obtain ⟨c0, c1, c2, c3, c4, c5, c6, c7, c8, c9, c10, c11, c12⟩ := HA4.out.box |> MsgAt.of
      obtain ⟨n0, n1, n2, n3, n4, n5, n6, n7, n8, n9, n10, n11, n12⟩ := NoAt.of HA4.out.res
      have fr := fun j => NoAt.free HA4.out.res j
      obtain ⟨W9, hW9, hbox, hk, hbw⟩ := msg_stored Mr (.slice vo ln vc) HA4.out.res
      have HW9 := Lib.hid hW9
      have Hbox := Lib.hid hbox
      have HD := Lib.hid (HA4.out.done hk hbw)
      clear hW9 hbox hk hbw HA4
      go_wp2_with fail
      rw [← HW9.out]
      obtain ⟨d0, d1, d2, d3, d4, d5, d6, d7, d8, d9, d10, d11, d12⟩ := MsgAt.of Hbox.out
      obtain ⟨h3, h2⟩ := HD.out
      clear c0 c1 c2 c3 c4 c5 c6 c7 c8 c9 c10 c11 c12 n0 n1 n2 n3 n4 n5 n6 n7 n8 n9 n10 n11 n12 fr
      unfold msgV strV
      simp [bodyPost, results, Tryd.results21, go_sem, d0, d1, d2, d3, d4, d5, d6, d7, d8, d9, d10, d11, d12]
      first | exact ⟨h3, h2⟩ | exact ⟨_, rfl, h3, h2⟩
end Go.Proofs.YtepkihoakagidaaDoor
