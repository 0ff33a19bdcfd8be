/- What the landed find of package message returns. Condition: the segments' cells are known, their texts are not too long, the library's variables lie as they were laid. -/
import Derived.Test.YtepkihoakagidaaDoorZLMsgScan
import Derived.Test.YtepkihoakagidaaDoorZLMsgSegs
namespace Go.Proofs.YtepkihoakagidaaDoor
open Go.RowKit

theorem word_fit {s : Seg} (h : fitE s.els) (k : Nat) : (wordL (atF s k)).length ≤ 281474976710656 := by
  obtain ⟨t, E⟩ := s
  exact fit_word (fit_at h k).2
theorem read_fit : ∀ (L : List Seg) (M : Msg), fitL L → (M.code.length ≤ 281474976710656 ∧ M.ctry.length ≤ 281474976710656 ∧ M.text.length ≤ 281474976710656) →
    ((L.foldl rStep M).code.length ≤ 281474976710656 ∧ (L.foldl rStep M).ctry.length ≤ 281474976710656 ∧ (L.foldl rStep M).text.length ≤ 281474976710656)
  | [], _, _, h => h
  | s :: r, M, hf, h => by
    refine read_fit r (rStep M s) (fun t ht => hf t (List.mem_cons_of_mem _ ht)) ?_
    have hs := hf s (List.mem_cons_self ..)
    unfold rStep
    split
    · exact h
    · split
      · exact h
      · split
        · exact ⟨word_fit hs 0, word_fit hs 1, h.2.2⟩
        · split
          · exact h
          · split
            · exact ⟨h.1, h.2.1, word_fit hs 0⟩
            · exact h
theorem read_in {w : World} {L : List Seg} {vl : Value} {p : Nat → Prop} (hf : fitL L) (hn : NumsIn p w vl (readM L).list) (hp : ∀ b, p b → Has_ w b) : MsgIn (Has_ w) w (msgV (readM L) vl) (readM L) := by
  obtain ⟨h1, h2, h3⟩ := read_fit L noMsg hf ⟨by simp [noMsg], by simp [noMsg], by simp [noMsg]⟩
  exact ⟨⟨vl, rfl, hn.keep fun b hb => ⟨hp b hb, rfl⟩⟩, by unfold maxLen; exact Nat.le_trans h1 (by omega), by unfold maxLen; exact Nat.le_trans h2 (by omega), by unfold maxLen; exact Nat.le_trans h3 (by omega)⟩
theorem segsM_len6 (m : Msg) : (segsM m).length ≤ 6 := by
  have := front_len m
  unfold segsM
  simp
  omega
/-- What find returns. -/
def findV (L : List Seg) : Msg × Bool := match findL L with
  | some m => (m, true)
  | none => (noMsg, false)
theorem find_no {L : List Seg} (h : ¬ (msgE (readM L) = 0 ∧ nearB L (segsM (readM L)) = true)) : findV L = (noMsg, false) := by
  unfold findV findL
  rw [if_neg h]
theorem find_yes {L : List Seg} (h1 : msgE (readM L) = 0) (h2 : nearB L (segsM (readM L)) = true) : findV L = (readM L, true) := by
  unfold findV findL
  rw [if_pos ⟨h1, h2⟩]
theorem lastL_at {L : List Seg} {n : Nat} {s : Seg} (hn : L.length = n + 1) (hs : L[n]? = some s) : L.getLastD noSeg = s := by
  rw [List.getLastD_eq_getLast?, List.getLast?_eq_getElem?, hn]
  show (L[n]?).getD noSeg = s
  rw [hs]
  rfl
/-- Two lists of one length, from their elements. -/
theorem near_of {L W : List Seg} {n : Nat} {s t : Seg} (h1 : L.length = n + 1) (h2 : W.length = n + 1) (hs : L[n]? = some s) (ht : W[n]? = some t) : nearB L W = ((L.take n == W.take n) && sameFrom 1 s t) := by
  unfold nearB
  rw [lastL_at h1 hs, lastL_at h2 ht, List.dropLast_eq_take, List.dropLast_eq_take, h1, h2]
  simp
theorem near_len {L W : List Seg} (h : L.length ≠ W.length) : nearB L W = false := by
  unfold nearB
  rw [show (L.length == W.length) = false from by rw [beq_eq_false_iff_ne]; exact h, Bool.false_and]
theorem take_ne {L W : List Seg} {n i : Nat} {s t : Seg} (hi : i < n) (hs : L[i]? = some s) (ht : W[i]? = some t) (h : s ≠ t) : (L.take n == W.take n) = false := by
  rw [beq_eq_false_iff_ne]
  intro e
  have h1 : (L.take n)[i]? = some s := by rw [List.getElem?_take_of_lt hi]; exact hs
  have h2 : (W.take n)[i]? = some t := by rw [List.getElem?_take_of_lt hi]; exact ht
  rw [e, h2] at h1
  exact h (Option.some.inj h1).symm
/-- What lies in memory while find runs: the result's cells, the message's box, its numbers. -/
structure FnAt (w wx : World) (M : Msg) (vl : Value) (B : Nat) : Prop where
  below : Below w.heap.size w wx
  res : wx.heap[w.heap.size]? = some (.cells noCells 24 (0, 0))
  box : wx.heap[B]? = some (.cells (msgCells M vl) 24 (0, 0))
  nums : NumsIn (fun b => w.heap.size + 1 ≤ b ∧ b < wx.heap.size) wx vl M.list
theorem FnAt.keep {w wx w1 : World} {M : Msg} {vl : Value} {B : Nat} (h : FnAt w wx M vl B) (hb : Below wx.heap.size wx w1) : FnAt w w1 M vl B :=
  ⟨h.below.trans (hb.mono h.below.size), (hb.block _ (Array.getElem?_eq_some_iff.1 h.res).1).trans h.res, (hb.block _ (Array.getElem?_eq_some_iff.1 h.box).1).trans h.box, h.nums.keep fun b hb1 => ⟨⟨hb1.1, Nat.lt_of_lt_of_le hb1.2 hb.size⟩, hb.block b hb1.2⟩⟩
theorem FnAt.done {w wx W9 : World} {M : Msg} {vl : Value} {B : Nat} (h : FnAt w wx M vl B) (hk : ∀ b, b ≠ w.heap.size → W9.heap[b]? = wx.heap[b]?) (hbw : ∀ n, n ≤ w.heap.size → Below n wx W9) : NumsIn (NewB w W9) W9 vl M.list ∧ Below w.heap.size w W9 :=
  ⟨h.nums.keep fun b hb => ⟨⟨by omega, Nat.lt_of_lt_of_le hb.2 (hbw 0 (Nat.zero_le _)).size⟩, hk b (by omega)⟩, h.below.trans (hbw _ (Nat.le_refl _))⟩
/-- No message is stored over no message. -/
theorem no_stored {w : World} {B : Nat} {t : TypeId} (h : w.heap[B]? = some (.cells noCells t (0, 0))) :
    ∃ W9, W9 = (((((((((((((w.setCell ⟨B, 0, none⟩ (.int .i64 0)).setCell ⟨B, 1, none⟩ (.int .i64 0)).setCell ⟨B, 2, none⟩ (.int .i64 0)).setCell ⟨B, 3, none⟩ (.int .i64 0)).setCell ⟨B, 4, none⟩ (.int .i64 0)).setCell ⟨B, 5, none⟩ (.int .i64 0)).setCell ⟨B, 6, none⟩ (.int .i64 0)).setCell ⟨B, 7, none⟩ (.string ⟨#[]⟩)).setCell ⟨B, 8, none⟩ (.string ⟨#[]⟩)).setCell ⟨B, 9, none⟩ (.int .i64 0)).setCell ⟨B, 10, none⟩ (.int .i64 0)).setCell ⟨B, 11, none⟩ (.slice none 0 0)).setCell ⟨B, 12, none⟩ (.string ⟨#[]⟩)) ∧ W9.heap[B]? = some (.cells noCells t (0, 0)) ∧ (∀ b, b ≠ B → W9.heap[b]? = w.heap[b]?) ∧ (∀ n, n ≤ B → Below n w W9) := msg_stored noMsg (.slice none 0 0) h

set_option maxRecDepth 100000 in
set_option maxHeartbeats 6400000 in
theorem lFind_any (v : Value) (L : List Seg) (w : World) (h : SegsIn (Has_ w) w v L) (hf : fitL L) (hL : MErr w) :
    Calls Tryd.prog 48 #[v] w fun e w' => ∃ vl, e = .returned (.tuple #[msgV (findV L).1 vl, .bool (findV L).2]) ∧ NumsIn (NewB w w') w' vl (findV L).1.list ∧ Below w.heap.size w w' := by
  have hb0 : Below w.heap.size w (w.alloc (.cells noCells 24)) := (Below.refl _ _).alloc (Nat.le_refl _) _
  have hres : (w.alloc (.cells noCells 24)).heap[w.heap.size]? = some (.cells noCells 24 (0, 0)) := by
    show (w.heap.push _)[w.heap.size]? = some _
    simp
  have hsz : (w.alloc (.cells noCells 24)).heap.size = w.heap.size + 1 := by simp
  have HR := Lib.hid (lRead_any v L _ (h.later hb0) hf (hL.keep hb0))
  have HS := Lib.hid (fun m v w h hL => msgSegments_any m v w h hL)
  have HQ := Lib.hid (fun first ta tb va vb A B w h1 h2 => lSameFrom_any first ta tb va vb A B w h1 h2)
  obtain ⟨ao, cap, rfl, hl, _⟩ := h.form
  have hlb : L.length ≤ 9223372036854775807 := by unfold maxLen at hl; omega
  have HSeg := Lib.hid h
  have HF := Lib.hid hf
  have HLw := Lib.hid hL
  have HB0 := Lib.hid hb0
  have Hres := Lib.hid hres
  have Hsz := Lib.hid hsz
  obtain ⟨Mr, hMr⟩ : ∃ Mr, Mr = (findV L).1 := ⟨_, rfl⟩
  obtain ⟨br, hbr⟩ : ∃ br, br = (findV L).2 := ⟨_, rfl⟩
  rw [← hMr, ← hbr]
  have Hno := Lib.hid (show ¬ (msgE (readM L) = 0 ∧ nearB L (segsM (readM L)) = true) → Mr = noMsg ∧ br = false from fun h => by rw [hMr, hbr, find_no h]; exact ⟨rfl, rfl⟩)
  have Hyes := Lib.hid (show msgE (readM L) = 0 → nearB L (segsM (readM L)) = true → Mr = readM L ∧ br = true from fun h1 h2 => by rw [hMr, hbr, find_yes h1 h2]; exact ⟨rfl, rfl⟩)
  have Hin := Lib.hid (fun (W : World) (vl : Value) (p : Nat → Prop) (hn : NumsIn p W vl (readM L).list) (hp : ∀ b, p b → Has_ W b) => read_in hf hn hp)
  generalize readM L = M at *
  clear h hf hL hl hb0 hres hsz hMr hbr
  unfold noCells at HR HB0 Hres Hsz
  go_enter Tryd.func48, Tryd.ntmps48
  go_wp2_with fail
  generalize w.alloc (.cells #[.int .i64 0, .int .i64 0, .int .i64 0, .int .i64 0, .int .i64 0, .int .i64 0, .int .i64 0, .string ⟨#[]⟩, .string ⟨#[]⟩, .int .i64 0, .int .i64 0, .slice none 0 0, .string ⟨#[]⟩] 24) = W0 at *
  refine HR.out.mono ?_
  rintro e w1 ⟨vl, rfl, hn, hb⟩
  have hnh := hn.form
  obtain ⟨vo, vc, rfl, _⟩ := hnh
  obtain ⟨ln, hln⟩ : ∃ k, M.list.length = k := ⟨_, rfl⟩
  rw [hln] at hn ⊢
  have hba : Below w1.heap.size w1 (w1.alloc (.cells (msgCells M (.slice vo ln vc)) 24)) := (Below.refl _ _).alloc (Nat.le_refl _) _
  have HA := Lib.hid (show FnAt w (w1.alloc (.cells (msgCells M (.slice vo ln vc)) 24)) M (.slice vo ln vc) w1.heap.size from ⟨(HB0.out.trans (hb.mono HB0.out.size)).trans (hba.mono (Nat.le_trans HB0.out.size hb.size)), (hba.block _ (by have := (Array.getElem?_eq_some_iff.1 Hres.out).1; exact Nat.lt_of_lt_of_le this hb.size)).trans ((hb.block _ (Array.getElem?_eq_some_iff.1 Hres.out).1).trans Hres.out), by show (w1.heap.push _)[w1.heap.size]? = some _; simp, NumsIn.keep hn fun b hb1 => ⟨⟨by have := Hsz.out; have := hb1.1; omega, Nat.lt_of_lt_of_le hb1.2 hba.size⟩, hba.block b hb1.2⟩⟩)
  have HI := Lib.hid (Hin.out _ _ _ (NumsIn.keep hn fun b hb1 => ⟨hb1, hba.block b hb1.2⟩) (fun b hb1 => Nat.lt_of_lt_of_le hb1.2 hba.size))
  unfold msgCells at HA HI
  unfold strV at HA HI
  obtain ⟨c0, c1, c2, c3, c4, c5, c6, c7, c8, c9, c10, c11, c12⟩ := HA.out.box |> MsgAt.of
  clear hb hn hba HR HB0 Hres Hsz Hin hln
  unfold msgV strV
  go_wp2_with fail
  generalize w1.alloc (.cells #[.int .i64 M.kind, .int .i64 M.frm, .int .i64 M.to_, .int .i64 M.num, .int .i64 M.day, .int .i64 M.lot, .int .i64 M.other, .string ⟨M.code.toArray⟩, .string ⟨M.ctry.toArray⟩, .int .i64 M.qty, .int .i64 M.amt, .slice vo ln vc, .string ⟨M.text.toArray⟩] 24) = W1 at *
  generalize w1.heap.size = B at *
  have HS1 := HS.out M _ _ HI.out (HLw.out.keep HA.out.below).lib
  unfold msgV strV at HS1
  refine HS1.mono ?_
  rintro e w2 ⟨u, rfl, hu, hb⟩
  have HA2 := Lib.hid (HA.out.keep hb)
  have HU := Lib.hid hu
  clear HS1 HS hu hb HA HI c0 c1 c2 c3 c4 c5 c6 c7 c8 c9 c10 c11 c12
  obtain ⟨n0, n1, n2, n3, n4, n5, n6, n7, n8, n9, n10, n11, n12⟩ := NoAt.of HA2.out.res
  have fr := fun j => NoAt.free HA2.out.res j
  obtain ⟨W9, hW9, hbox, hk, hbw⟩ := no_stored HA2.out.res
  have HW9 := Lib.hid hW9
  have Hbox := Lib.hid hbox
  have HK9 := Lib.hid (And.intro hk hbw)
  clear hW9 hbox hk hbw
  by_cases h0 : msgE M = 0
  rotate_left
  · have z0 : (msgE M != 0) = true := by rw [bne_iff_ne]; exact h0
    obtain ⟨rfl, rfl⟩ := Hno.out (fun h => h0 h.1)
    have hd := HA2.out.below.trans (HK9.out.2 _ (Nat.le_refl _))
    have HD := Lib.hid hd
    have hu := HU.out
    rw [if_neg h0] at hu
    obtain ⟨uo, uc, rfl, _⟩ := hu.slice
    generalize msgE M = E at *
    clear hu HU Hno Hyes HSeg HF HLw HA2 h0 hd HK9 HQ
    go_wp2_with fail
    rw [← HW9.out]
    obtain ⟨d0, d1, d2, d3, d4, d5, d6, d7, d8, d9, d10, d11, d12⟩ := NoAt.of Hbox.out
    have h2 := HD.out
    have h3 : NumsIn (NewB w W9) W9 (.slice none 0 0) noMsg.list := ⟨rfl, .inl ⟨rfl, rfl⟩⟩
    clear n0 n1 n2 n3 n4 n5 n6 n7 n8 n9 n10 n11 n12 fr
    unfold noMsg msgV strV
    simp [bodyPost, results, Tryd.results48, go_sem, d0, d1, d2, d3, d4, d5, d6, d7, d8, d9, d10, d11, d12]
    first | exact ⟨h3, h2⟩ | exact ⟨_, rfl, h3, h2⟩
  have z0 : ((0 : Int) != 0) = false := rfl
  have hu := HU.out
  rw [if_pos h0] at hu
  have HU2 := Lib.hid hu
  obtain ⟨n, hn⟩ : ∃ n, (segsM M).length = n + 1 := ⟨(frontS M).length, by unfold segsM; simp⟩
  have hnn : n ≤ 5 := by have := segsM_len6 M; omega
  obtain ⟨uo, uc, hue, _⟩ := hu.slice
  rw [hn] at hue
  subst hue
  rw [h0]
  by_cases hlen : L.length = n + 1
  rotate_left
  · have d2 : ((L.length : Int) != ((n + 1 : Nat) : Int)) = true := by rw [bne_iff_ne]; omega
    have d2' : ((L.length : Int) != ((n : Int) + 1)) = true := by rw [bne_iff_ne]; omega
    obtain ⟨rfl, rfl⟩ := Hno.out (fun h => by rw [near_len (by omega)] at h; cases h.2)
    have hd := HA2.out.below.trans (HK9.out.2 _ (Nat.le_refl _))
    have HD := Lib.hid hd
    clear hu HU HU2 Hno Hyes HSeg HF HLw HA2 h0 hd HK9 HQ hlen hn
    go_wp2_with fail
    rw [← HW9.out]
    obtain ⟨d0, d1, d2, d3, d4, d5, d6, d7, d8, d9, d10, d11, d12⟩ := NoAt.of Hbox.out
    have h2 := HD.out
    have h3 : NumsIn (NewB w W9) W9 (.slice none 0 0) noMsg.list := ⟨rfl, .inl ⟨rfl, rfl⟩⟩
    clear n0 n1 n2 n3 n4 n5 n6 n7 n8 n9 n10 n11 n12 fr
    unfold noMsg msgV strV
    simp [bodyPost, results, Tryd.results48, go_sem, d0, d1, d2, d3, d4, d5, d6, d7, d8, d9, d10, d11, d12]
    first | exact ⟨h3, h2⟩ | exact ⟨_, rfl, h3, h2⟩
  have d2 : ((L.length : Int) != ((n + 1 : Nat) : Int)) = false := by rw [bne_eq_false_iff_eq]; omega
  have d2' : ((L.length : Int) != ((n : Int) + 1)) = false := by rw [bne_eq_false_iff_eq]; omega
  have e1 : IntKind.i64.wrap ((L.length : Int) - 1) = (n : Int) := by rw [IntKind.wrap_i64]; omega
  have e2 : wrap64 ((L.length : Int) - 1) = (n : Int) := by unfold wrap64; omega
  have Hn := Lib.hid hn
  have Hl := Lib.hid hlen
  have H0 := Lib.hid h0
  clear HW9 Hbox HK9 n0 n1 n2 n3 n4 n5 n6 n7 n8 n9 n10 n11 n12 fr hu HU h0 hn hlen
  go_wp2_with fail
  go_loopw [30] (fun vi wx => ∃ i : Nat, vi = .int .i64 i ∧ i ≤ n ∧ Hid (L.take i = (segsM M).take i) ∧ Hid (Below w2.heap.size w2 wx)) (fun vi _ => n - (intOf vi).toNat)
  case atStart => exact ⟨0, by go_num, by omega, Lib.hid rfl, Lib.hid (Below.refl _ _)⟩
  case round =>
    obtain ⟨i, rfl, hi, hP, hB⟩ := hrel
    have HA3 := Lib.hid (HA2.out.keep hB.out)
    obtain ⟨s, hs⟩ : ∃ s, L[i]? = some s := ⟨_, List.getElem?_eq_getElem (by have := Hl.out; omega)⟩
    obtain ⟨t, ht⟩ : ∃ t, (segsM M)[i]? = some t := ⟨_, List.getElem?_eq_getElem (by have := Hn.out; omega)⟩
    obtain ⟨_, _, hq1, _, f1⟩ := (HSeg.out.later HA3.out.below).form
    injection hq1 with g1 g2 g3
    subst g1
    clear g2 g3
    obtain ⟨_, _, hq1, _, f2⟩ := (HU2.out.later hB.out).form
    injection hq1 with g1 g2 g3
    subst g1
    clear g2 g3
    obtain ⟨a, va, rfl, k1, k2, x1, _⟩ := f1 i s hs
    obtain ⟨b, vb, rfl, k3, k4, x2, _⟩ := f2 i t ht
    obtain ⟨oa, ca, rfl, _⟩ := x1.form
    obtain ⟨ob, cb, rfl, _⟩ := x2.form
    unfold strV at k1 k3
    obtain ⟨la, hla⟩ : ∃ k, s.els.length = k := ⟨_, rfl⟩
    obtain ⟨lb, hlb2⟩ : ∃ k, t.els.length = k := ⟨_, rfl⟩
    rw [hla] at k2 x1
    rw [hlb2] at k4 x2
    have HX1 := Lib.hid (fun W (hb : Below wr.heap.size wr W) => ElemsIn.keep x1 (has_keep hb))
    have HX2 := Lib.hid (fun W (hb : Below wr.heap.size wr W) => ElemsIn.keep x2 (has_keep hb))
    have j1 : (0 : Int) ≤ (i : Int) := by omega
    have j2 : (i : Int) < (L.length : Int) := by have := Hl.out; omega
    have j3 : (i : Int) < ((n + 1 : Nat) : Int) := by omega
    have j3' : (i : Int) < (n : Int) + 1 := by omega
    obtain ⟨pa, hpa⟩ : ∃ p, a.add (i * 2) = p := ⟨_, rfl⟩
    obtain ⟨pb, hpb⟩ : ∃ p, b.add (i * 2) = p := ⟨_, rfl⟩
    rw [hpa] at k1 k2
    rw [hpb] at k3 k4
    have Hst := Lib.hid (And.intro hs ht)
    clear f1 f2 x1 x2 hla hlb2 hs ht
    by_cases hlt : i < n
    · have d1 : decide ((i : Int) < (n : Int)) = true := decide_eq_true (by omega)
      have HQ1 : Hid (∀ W : World, Below wr.heap.size wr W → Calls Tryd.prog 66 #[.int .i64 0, .agg #[.string ⟨s.tag.toArray⟩, .slice oa la ca], .agg #[.string ⟨t.tag.toArray⟩, .slice ob lb cb]] W fun e w' => e = .returned (.bool (sameFrom 0 s t)) ∧ Below W.heap.size W w') := Lib.hid (fun W hb => HQ.out 0 s.tag t.tag _ _ s.els t.els W (HX1.out W hb) (HX2.out W hb))
      go_upto_region 9 with fail
      have HBd := Lib.hid ((Below.refl wr.heap.size wr).drew)
      refine wp_region_noPanic ?_
      refine wp_region_held_drew (S := fun w' => w'.cell? pa = some (.string ⟨s.tag.toArray⟩) ∧ w'.cell? ⟨pa.block, pa.off + 1, none⟩ = some (.slice oa la ca) ∧ w'.cell? pb = some (.string ⟨t.tag.toArray⟩) ∧ w'.cell? ⟨pb.block, pb.off + 1, none⟩ = some (.slice ob lb cb)) (by kernel_rfl) ⟨k1, k2, k3, k4⟩ (fun hHeld => ?_)
      generalize wr.drew = W5 at *
      refine wpAnyH_take (i := 0) (v := ?_) rfl (by kernel_rfl) (by kernel_rfl) (by kernel_rfl) (fun _ _ _ h => h) (Or.inl ⟨by rfl, ?_⟩) (by assumption) ?_
      rotate_left
      · intro wS hSw
        obtain ⟨hSw1, hSw2, hSw3, hSw4⟩ := hSw
        go_simp <;> with_reducible rfl
      try simp only [Act.put, List.getElem_toArray, List.getElem_cons_zero, List.setIfInBounds_toArray, List.set_cons_zero, List.set_cons_succ]
      refine wpAnyH_take (i := 1) (v := ?_) rfl (by kernel_rfl) (by kernel_rfl) (by kernel_rfl) (fun _ _ _ h => h) (Or.inl ⟨by rfl, ?_⟩) (by assumption) ?_
      rotate_left
      · intro wS hSw
        obtain ⟨hSw1, hSw2, hSw3, hSw4⟩ := hSw
        go_simp <;> with_reducible rfl
      try simp only [Act.put, List.getElem_toArray, List.getElem_cons_succ, List.getElem_cons_zero, List.setIfInBounds_toArray, List.set_cons_zero, List.set_cons_succ]
      refine wpAnyH_take (i := 2) (v := ?_) rfl (by kernel_rfl) (by kernel_rfl) (by kernel_rfl) (fun _ _ _ h => h) (Or.inl ⟨by rfl, ?_⟩) (by assumption) ?_
      rotate_left
      · intro wS hSw
        obtain ⟨hSw1, hSw2, hSw3, hSw4⟩ := hSw
        go_simp <;> with_reducible rfl
      try simp only [Act.put, List.getElem_toArray, List.getElem_cons_succ, List.getElem_cons_zero, List.setIfInBounds_toArray, List.set_cons_zero, List.set_cons_succ]
      refine wpAnyH_take (i := 3) (v := ?_) rfl (by kernel_rfl) (by kernel_rfl) (by kernel_rfl) (fun _ _ _ h => h) (Or.inl ⟨by rfl, ?_⟩) (by assumption) ?_
      rotate_left
      · intro wS hSw
        obtain ⟨hSw1, hSw2, hSw3, hSw4⟩ := hSw
        go_simp <;> with_reducible rfl
      try simp only [Act.put, List.getElem_toArray, List.getElem_cons_succ, List.getElem_cons_zero, List.setIfInBounds_toArray, List.set_cons_zero, List.set_cons_succ]
      refine wpAnyH_take (i := 4) (v := ?_) rfl (by kernel_rfl) (by kernel_rfl) (by kernel_rfl) (fun _ _ _ h => h) (Or.inl ⟨by rfl, ?_⟩) (by assumption) ?_
      rotate_left
      · intro wS hSw
        obtain ⟨hSw1, hSw2, hSw3, hSw4⟩ := hSw
        go_simp <;> with_reducible rfl
      try simp only [Act.put, List.getElem_toArray, List.getElem_cons_succ, List.getElem_cons_zero, List.setIfInBounds_toArray, List.set_cons_zero, List.set_cons_succ]
      refine wpAnyH_take (i := 5) (v := ?_) rfl (by kernel_rfl) (by kernel_rfl) (by kernel_rfl) (fun _ _ _ h => h) (Or.inl ⟨by rfl, ?_⟩) (by assumption) ?_
      rotate_left
      · intro wS hSw
        obtain ⟨hSw1, hSw2, hSw3, hSw4⟩ := hSw
        go_simp <;> with_reducible rfl
      try simp only [Act.put, List.getElem_toArray, List.getElem_cons_succ, List.getElem_cons_zero, List.setIfInBounds_toArray, List.set_cons_zero, List.set_cons_succ]
      refine wpAnyH_take (i := 6) (v := ?_) rfl (by kernel_rfl) (by kernel_rfl) (by kernel_rfl) (fun _ _ _ h => h) (Or.inl ⟨by rfl, ?_⟩) (by assumption) ?_
      rotate_left
      · intro wS hSw
        obtain ⟨hSw1, hSw2, hSw3, hSw4⟩ := hSw
        go_simp <;> with_reducible rfl
      try simp only [Act.put, List.getElem_toArray, List.getElem_cons_succ, List.getElem_cons_zero, List.setIfInBounds_toArray, List.set_cons_zero, List.set_cons_succ]
      refine wpAnyH_take (i := 7) (v := ?_) rfl (by kernel_rfl) (by kernel_rfl) (by kernel_rfl) (fun _ _ _ h => h) (Or.inl ⟨by rfl, ?_⟩) (by assumption) ?_
      rotate_left
      · intro wS hSw
        obtain ⟨hSw1, hSw2, hSw3, hSw4⟩ := hSw
        go_simp <;> with_reducible rfl
      try simp only [Act.put, List.getElem_toArray, List.getElem_cons_succ, List.getElem_cons_zero, List.setIfInBounds_toArray, List.set_cons_zero, List.set_cons_succ]
      refine wpAnyH_ready (rs := [8]) (by kernel_rfl) (by simp) ?_
      refine AllReadyH.cons rfl (fun K hK => ?_) AllReadyH.nil
      go_simp
      refine (HQ1.out _ HBd.out).mono ?_
      rintro e wA ⟨rfl, hbA⟩
      have HB6 := Lib.hid (HBd.out.trans (hbA.mono HBd.out.size))
      clear hbA
      refine hK.out _ _ (⟨(HB6.out.cell (World.block_lt_of_cell? _ _ k1)).trans k1, (HB6.out.cell (World.block_lt_of_cell? _ _ k2)).trans k2, (HB6.out.cell (World.block_lt_of_cell? _ _ k3)).trans k3, (HB6.out.cell (World.block_lt_of_cell? _ _ k4)).trans k4⟩) (fun hHeld => ?_)
      clear hK K
      try simp only [Act.put, List.getElem_toArray, List.getElem_cons_succ, List.getElem_cons_zero, List.setIfInBounds_toArray, List.set_cons_zero, List.set_cons_succ]
      refine wpAnyH_take (i := 9) (v := ?_) rfl (by kernel_rfl) (by kernel_rfl) (by kernel_rfl) (fun _ _ _ h => h) (Or.inl ⟨by rfl, ?_⟩) (by assumption) ?_
      rotate_left
      · intro wS hSw
        obtain ⟨hSw1, hSw2, hSw3, hSw4⟩ := hSw
        go_simp <;> with_reducible rfl
      try simp only [Act.put, List.getElem_toArray, List.getElem_cons_succ, List.getElem_cons_zero, List.setIfInBounds_toArray, List.set_cons_zero, List.set_cons_succ]
      refine wpAnyH_done (by kernel_rfl) ?_ _
      refine NoPanic.normal ?_
      clear hHeld
      have HA4 := Lib.hid (HA3.out.keep HB6.out)
      have HB4 := Lib.hid (hB.out.trans (HB6.out.mono hB.out.size))
      clear HB6 HBd HQ1 HX1 HX2 k1 k2 k3 k4 hpa hpb HA3
      cases hsm : sameFrom 0 s t with
      | false =>
        obtain ⟨rfl, rfl⟩ := Hno.out (fun h => by
          obtain ⟨s9, hs9⟩ : ∃ s9, L[n]? = some s9 := ⟨_, List.getElem?_eq_getElem (by have := Hl.out; omega)⟩
          obtain ⟨t9, ht9⟩ : ∃ t9, (segsM M)[n]? = some t9 := ⟨_, List.getElem?_eq_getElem (by have := Hn.out; omega)⟩
          rw [near_of Hl.out Hn.out hs9 ht9, take_ne hlt Hst.out.1 Hst.out.2 (fun e => by rw [(same_zero s t).2 e] at hsm; cases hsm), Bool.false_and] at h
          cases h.2)
        clear hsm Hst HA2 HB4 hB hP Hno Hyes HSeg HU2 HQ
        obtain ⟨n0, n1, n2, n3, n4, n5, n6, n7, n8, n9, n10, n11, n12⟩ := NoAt.of HA4.out.res
        have fr := fun j => NoAt.free HA4.out.res j
        obtain ⟨W9, hW9, hbox, hk, hbw⟩ := no_stored HA4.out.res
        have HW9 := Lib.hid hW9
        have Hbox := Lib.hid hbox
        have HD := Lib.hid (HA4.out.below.trans (hbw _ (Nat.le_refl _)))
        clear hW9 hbox hk hbw HA4
        go_wp2_with fail
        rw [← HW9.out]
        obtain ⟨d0, d1, d2, d3, d4, d5, d6, d7, d8, d9, d10, d11, d12⟩ := NoAt.of Hbox.out
        have h2 := HD.out
        have h3 : NumsIn (NewB w W9) W9 (.slice none 0 0) noMsg.list := ⟨rfl, .inl ⟨rfl, rfl⟩⟩
        clear n0 n1 n2 n3 n4 n5 n6 n7 n8 n9 n10 n11 n12 fr
        unfold noMsg msgV strV
        simp [bodyPost, results, Tryd.results48, go_sem, d0, d1, d2, d3, d4, d5, d6, d7, d8, d9, d10, d11, d12]
        first | exact ⟨h3, h2⟩ | exact ⟨_, rfl, h3, h2⟩
      | true =>
        have hP2 := Lib.hid (snoc_eq hP.out Hst.out.1 Hst.out.2 ((same_zero s t).1 hsm))
        clear hsm Hst HA4 hP hB
        go_wp2_with fail
        go_roundw
        case rel => exact ⟨i + 1, by go_num, by omega, hP2, HB4⟩
        case measure => simp [intOf]; omega
    · obtain rfl : i = n := by omega
      have d1 : decide ((i : Int) < (i : Int)) = false := decide_eq_false (by omega)
      have HQ1 : Hid (∀ W : World, Below wr.heap.size wr W → Calls Tryd.prog 66 #[.int .i64 1, .agg #[.string ⟨s.tag.toArray⟩, .slice oa la ca], .agg #[.string ⟨t.tag.toArray⟩, .slice ob lb cb]] W fun e w' => e = .returned (.bool (sameFrom 1 s t)) ∧ Below W.heap.size W w') := Lib.hid (fun W hb => HQ.out 1 s.tag t.tag _ _ s.els t.els W (HX1.out W hb) (HX2.out W hb))
      have hnear := Lib.hid (show nearB L (segsM M) = sameFrom 1 s t from by rw [near_of Hl.out Hn.out Hst.out.1 Hst.out.2, hP.out]; simp)
      go_upto_region 12 with fail
      have HBd := Lib.hid ((Below.refl wr.heap.size wr).drew)
      refine wp_region_noPanic ?_
      refine wp_region_held_drew (S := fun w' => w'.cell? pa = some (.string ⟨s.tag.toArray⟩) ∧ w'.cell? ⟨pa.block, pa.off + 1, none⟩ = some (.slice oa la ca) ∧ w'.cell? pb = some (.string ⟨t.tag.toArray⟩) ∧ w'.cell? ⟨pb.block, pb.off + 1, none⟩ = some (.slice ob lb cb)) (by kernel_rfl) ⟨k1, k2, k3, k4⟩ (fun hHeld => ?_)
      generalize wr.drew = W5 at *
      refine wpAnyH_take (i := 0) (v := ?_) rfl (by kernel_rfl) (by kernel_rfl) (by kernel_rfl) (fun _ _ _ h => h) (Or.inl ⟨by rfl, ?_⟩) (by assumption) ?_
      rotate_left
      · intro wS hSw
        obtain ⟨hSw1, hSw2, hSw3, hSw4⟩ := hSw
        go_simp <;> with_reducible rfl
      try simp only [Act.put, List.getElem_toArray, List.getElem_cons_zero, List.setIfInBounds_toArray, List.set_cons_zero, List.set_cons_succ]
      refine wpAnyH_take (i := 1) (v := ?_) rfl (by kernel_rfl) (by kernel_rfl) (by kernel_rfl) (fun _ _ _ h => h) (Or.inl ⟨by rfl, ?_⟩) (by assumption) ?_
      rotate_left
      · intro wS hSw
        obtain ⟨hSw1, hSw2, hSw3, hSw4⟩ := hSw
        go_simp <;> with_reducible rfl
      try simp only [Act.put, List.getElem_toArray, List.getElem_cons_succ, List.getElem_cons_zero, List.setIfInBounds_toArray, List.set_cons_zero, List.set_cons_succ]
      refine wpAnyH_take (i := 2) (v := ?_) rfl (by kernel_rfl) (by kernel_rfl) (by kernel_rfl) (fun _ _ _ h => h) (Or.inl ⟨by rfl, ?_⟩) (by assumption) ?_
      rotate_left
      · intro wS hSw
        obtain ⟨hSw1, hSw2, hSw3, hSw4⟩ := hSw
        go_simp <;> with_reducible rfl
      try simp only [Act.put, List.getElem_toArray, List.getElem_cons_succ, List.getElem_cons_zero, List.setIfInBounds_toArray, List.set_cons_zero, List.set_cons_succ]
      refine wpAnyH_take (i := 3) (v := ?_) rfl (by kernel_rfl) (by kernel_rfl) (by kernel_rfl) (fun _ _ _ h => h) (Or.inl ⟨by rfl, ?_⟩) (by assumption) ?_
      rotate_left
      · intro wS hSw
        obtain ⟨hSw1, hSw2, hSw3, hSw4⟩ := hSw
        go_simp <;> with_reducible rfl
      try simp only [Act.put, List.getElem_toArray, List.getElem_cons_succ, List.getElem_cons_zero, List.setIfInBounds_toArray, List.set_cons_zero, List.set_cons_succ]
      refine wpAnyH_take (i := 4) (v := ?_) rfl (by kernel_rfl) (by kernel_rfl) (by kernel_rfl) (fun _ _ _ h => h) (Or.inl ⟨by rfl, ?_⟩) (by assumption) ?_
      rotate_left
      · intro wS hSw
        obtain ⟨hSw1, hSw2, hSw3, hSw4⟩ := hSw
        go_simp <;> with_reducible rfl
      try simp only [Act.put, List.getElem_toArray, List.getElem_cons_succ, List.getElem_cons_zero, List.setIfInBounds_toArray, List.set_cons_zero, List.set_cons_succ]
      refine wpAnyH_take (i := 5) (v := ?_) rfl (by kernel_rfl) (by kernel_rfl) (by kernel_rfl) (fun _ _ _ h => h) (Or.inl ⟨by rfl, ?_⟩) (by assumption) ?_
      rotate_left
      · intro wS hSw
        obtain ⟨hSw1, hSw2, hSw3, hSw4⟩ := hSw
        go_simp <;> with_reducible rfl
      try simp only [Act.put, List.getElem_toArray, List.getElem_cons_succ, List.getElem_cons_zero, List.setIfInBounds_toArray, List.set_cons_zero, List.set_cons_succ]
      refine wpAnyH_take (i := 6) (v := ?_) rfl (by kernel_rfl) (by kernel_rfl) (by kernel_rfl) (fun _ _ _ h => h) (Or.inl ⟨by rfl, ?_⟩) (by assumption) ?_
      rotate_left
      · intro wS hSw
        obtain ⟨hSw1, hSw2, hSw3, hSw4⟩ := hSw
        go_simp <;> with_reducible rfl
      try simp only [Act.put, List.getElem_toArray, List.getElem_cons_succ, List.getElem_cons_zero, List.setIfInBounds_toArray, List.set_cons_zero, List.set_cons_succ]
      refine wpAnyH_take (i := 7) (v := ?_) rfl (by kernel_rfl) (by kernel_rfl) (by kernel_rfl) (fun _ _ _ h => h) (Or.inl ⟨by rfl, ?_⟩) (by assumption) ?_
      rotate_left
      · intro wS hSw
        obtain ⟨hSw1, hSw2, hSw3, hSw4⟩ := hSw
        go_simp <;> with_reducible rfl
      try simp only [Act.put, List.getElem_toArray, List.getElem_cons_succ, List.getElem_cons_zero, List.setIfInBounds_toArray, List.set_cons_zero, List.set_cons_succ]
      refine wpAnyH_ready (rs := [8]) (by kernel_rfl) (by simp) ?_
      refine AllReadyH.cons rfl (fun K hK => ?_) AllReadyH.nil
      go_simp
      refine (HQ1.out _ HBd.out).mono ?_
      rintro e wA ⟨rfl, hbA⟩
      have HB6 := Lib.hid (HBd.out.trans (hbA.mono HBd.out.size))
      clear hbA
      refine hK.out _ _ (⟨(HB6.out.cell (World.block_lt_of_cell? _ _ k1)).trans k1, (HB6.out.cell (World.block_lt_of_cell? _ _ k2)).trans k2, (HB6.out.cell (World.block_lt_of_cell? _ _ k3)).trans k3, (HB6.out.cell (World.block_lt_of_cell? _ _ k4)).trans k4⟩) (fun hHeld => ?_)
      clear hK K
      try simp only [Act.put, List.getElem_toArray, List.getElem_cons_succ, List.getElem_cons_zero, List.setIfInBounds_toArray, List.set_cons_zero, List.set_cons_succ]
      refine wpAnyH_take (i := 9) (v := ?_) rfl (by kernel_rfl) (by kernel_rfl) (by kernel_rfl) (fun _ _ _ h => h) (Or.inl ⟨by rfl, ?_⟩) (by assumption) ?_
      rotate_left
      · intro wS hSw
        obtain ⟨hSw1, hSw2, hSw3, hSw4⟩ := hSw
        go_simp <;> with_reducible rfl
      try simp only [Act.put, List.getElem_toArray, List.getElem_cons_succ, List.getElem_cons_zero, List.setIfInBounds_toArray, List.set_cons_zero, List.set_cons_succ]
      refine wpAnyH_done (by kernel_rfl) ?_ _
      refine NoPanic.normal ?_
      clear hHeld
      have HA4 := Lib.hid (HA3.out.keep HB6.out)
      clear HB6 HBd HQ1 HX1 HX2 k1 k2 k3 k4 hpa hpb HA3 Hst hB hP HA2 HSeg HU2 HQ
      cases hsm : sameFrom 1 s t with
      | false =>
        obtain ⟨rfl, rfl⟩ := Hno.out (fun h => by rw [hnear.out, hsm] at h; cases h.2)
        clear hsm hnear Hno Hyes
        obtain ⟨n0, n1, n2, n3, n4, n5, n6, n7, n8, n9, n10, n11, n12⟩ := NoAt.of HA4.out.res
        have fr := fun j => NoAt.free HA4.out.res j
        obtain ⟨W9, hW9, hbox, hk, hbw⟩ := no_stored HA4.out.res
        have HW9 := Lib.hid hW9
        have Hbox := Lib.hid hbox
        have HD := Lib.hid (HA4.out.below.trans (hbw _ (Nat.le_refl _)))
        clear hW9 hbox hk hbw HA4
        go_wp2_with fail
        rw [← HW9.out]
        obtain ⟨d0, d1, d2, d3, d4, d5, d6, d7, d8, d9, d10, d11, d12⟩ := NoAt.of Hbox.out
        have h2 := HD.out
        have h3 : NumsIn (NewB w W9) W9 (.slice none 0 0) noMsg.list := ⟨rfl, .inl ⟨rfl, rfl⟩⟩
        clear n0 n1 n2 n3 n4 n5 n6 n7 n8 n9 n10 n11 n12 fr
        unfold noMsg msgV strV
        simp [bodyPost, results, Tryd.results48, go_sem, d0, d1, d2, d3, d4, d5, d6, d7, d8, d9, d10, d11, d12]
        first | exact ⟨h3, h2⟩ | exact ⟨_, rfl, h3, h2⟩
      | true =>
        obtain ⟨rfl, rfl⟩ := Hyes.out H0.out (by rw [hnear.out, hsm])
        clear hsm hnear Hno Hyes
        obtain ⟨c0, c1, c2, c3, c4, c5, c6, c7, c8, c9, c10, c11, c12⟩ := HA4.out.box |> MsgAt.of
        obtain ⟨n0, n1, n2, n3, n4, n5, n6, n7, n8, n9, n10, n11, n12⟩ := NoAt.of HA4.out.res
        have fr := fun j => NoAt.free HA4.out.res j
        obtain ⟨W9, hW9, hbox, hk, hbw⟩ := msg_stored Mr (.slice vo ln vc) HA4.out.res
        have HW9 := Lib.hid hW9
        have Hbox := Lib.hid hbox
        have HD := Lib.hid (HA4.out.done hk hbw)
        clear hW9 hbox hk hbw HA4
        go_wp2_with fail
        rw [← HW9.out]
        obtain ⟨d0, d1, d2, d3, d4, d5, d6, d7, d8, d9, d10, d11, d12⟩ := MsgAt.of Hbox.out
        obtain ⟨h3, h2⟩ := HD.out
        clear c0 c1 c2 c3 c4 c5 c6 c7 c8 c9 c10 c11 c12 n0 n1 n2 n3 n4 n5 n6 n7 n8 n9 n10 n11 n12 fr
        unfold msgV strV
        simp [bodyPost, results, Tryd.results48, go_sem, d0, d1, d2, d3, d4, d5, d6, d7, d8, d9, d10, d11, d12]
        first | exact ⟨h3, h2⟩ | exact ⟨_, rfl, h3, h2⟩
end Go.Proofs.YtepkihoakagidaaDoor
