/- What the landed read of package message returns. Condition: the segments' cells are known, their texts are not too long, the library's variables lie as they were laid. -/
import Derived.Test.YtepkihoakagidaaDoorG3
import Derived.Test.YtepkihoakagidaaDoorG4
import Derived.Test.YtepkihoakagidaaDoorZMadeMsg
import Derived.Test.YtepkihoakagidaaDoorG2
namespace Go.Proofs.YtepkihoakagidaaDoor
open Go.RowKit

/-- The message read so far, in a block of its own behind the result's. -/
structure RmAt (w wx : World) (M : Msg) (vl : Value) : Prop where
  below : Below w.heap.size w wx
  res : wx.heap[w.heap.size]? = some (.cells noCells 24 (0, 0))
  box : wx.heap[w.heap.size + 1]? = some (.cells (msgCells M vl) 24 (0, 0))
  nums : NumsIn (fun b => w.heap.size + 2 ≤ b ∧ b < wx.heap.size) wx vl M.list
theorem RmAt.keep {w wx w1 : World} {M : Msg} {vl : Value} (h : RmAt w wx M vl) (hb : Below wx.heap.size wx w1) : RmAt w w1 M vl :=
  ⟨h.below.trans (hb.mono h.below.size), (hb.block _ (Array.getElem?_eq_some_iff.1 h.res).1).trans h.res, (hb.block _ (Array.getElem?_eq_some_iff.1 h.box).1).trans h.box, h.nums.keep fun b hb1 => ⟨⟨hb1.1, Nat.lt_of_lt_of_le hb1.2 hb.size⟩, hb.block b hb1.2⟩⟩
theorem RmAt.cells {w wx : World} {M : Msg} {vl : Value} (h : RmAt w wx M vl) : MsgAt wx (w.heap.size + 1) M vl := MsgAt.of h.box
theorem RmAt.free {w wx : World} {M : Msg} {vl : Value} (h : RmAt w wx M vl) (j : Nat) : wx.frozen? ⟨w.heap.size + 1, j, none⟩ = false := by
  have := h.box
  simp [World.frozen?, this]
theorem RmAt.set {w wx : World} {M M1 : Msg} {vl vl1 : Value} (h : RmAt w wx M vl) (j : Nat) (v : Value) (hc : (msgCells M vl).setIfInBounds j v = msgCells M1 vl1) (hn : NumsIn (fun b => w.heap.size + 2 ≤ b ∧ b < wx.heap.size) wx vl1 M1.list) : RmAt w (wx.setCell ⟨w.heap.size + 1, j, none⟩ v) M1 vl1 := by
  have hk : ∀ b, b ≠ w.heap.size + 1 → (wx.setCell ⟨w.heap.size + 1, j, none⟩ v).heap[b]? = wx.heap[b]? := fun b hb => heap_setCell_other wx ⟨w.heap.size + 1, j, none⟩ b v hb
  refine ⟨h.below.setCell (Nat.le_succ _) v, (hk _ (by omega)).trans h.res, ?_, hn.keep fun b hb => ⟨⟨hb.1, by simpa using hb.2⟩, hk b (by omega)⟩⟩
  rw [← hc]
  exact set_box h.box j v
theorem RmAt.put {w wx : World} {M M1 : Msg} {vl : Value} (h : RmAt w wx M vl) (j : Nat) (v : Value) (hc : (msgCells M vl).setIfInBounds j v = msgCells M1 vl) (hl : M1.list = M.list) : RmAt w (wx.setCell ⟨w.heap.size + 1, j, none⟩ v) M1 vl :=
  h.set j v hc (by rw [hl]; exact h.nums)
theorem RmAt.start (w : World) : RmAt w ((w.alloc (.cells noCells 24)).alloc (.cells noCells 24)) noMsg (.slice none 0 0) := by
  have hb := (Below.refl w.heap.size w).alloc (Nat.le_refl _) (.cells noCells 24)
  refine ⟨hb.alloc hb.size _, ?_, ?_, ⟨rfl, .inl ⟨rfl, rfl⟩⟩⟩
  · show ((w.heap.push _).push _)[w.heap.size]? = _
    simp [Array.getElem?_push]
  · show ((w.heap.push _).push _)[w.heap.size + 1]? = _
    rw [Array.getElem?_push, if_pos (by simp)]
    rfl
/-- .. and the segment that is read, in block N. -/
structure RsAt (w wx : World) (M : Msg) (vl : Value) (N : Nat) (t : List UInt8) (va : Value) : Prop where
  rm : RmAt w wx M vl
  seg : wx.heap[N]? = some (.cells #[.string ⟨t.toArray⟩, va] 49 (0, 0))
theorem RsAt.keep {w wx w1 : World} {M : Msg} {vl : Value} {N : Nat} {t : List UInt8} {va : Value} (h : RsAt w wx M vl N t va) (hb : Below wx.heap.size wx w1) : RsAt w w1 M vl N t va :=
  ⟨h.rm.keep hb, (hb.block _ (Array.getElem?_eq_some_iff.1 h.seg).1).trans h.seg⟩
theorem RsAt.set {w wx : World} {M M1 : Msg} {vl vl1 : Value} {N : Nat} {t : List UInt8} {va : Value} (h : RsAt w wx M vl N t va) (j : Nat) (v : Value) (hc : (msgCells M vl).setIfInBounds j v = msgCells M1 vl1) (hn : NumsIn (fun b => w.heap.size + 2 ≤ b ∧ b < wx.heap.size) wx vl1 M1.list) : RsAt w (wx.setCell ⟨w.heap.size + 1, j, none⟩ v) M1 vl1 N t va :=
  ⟨h.rm.set j v hc hn, (heap_setCell_other wx ⟨w.heap.size + 1, j, none⟩ N v (ty_ne h.seg h.rm.box (by decide))).trans h.seg⟩
theorem RsAt.put {w wx : World} {M M1 : Msg} {vl : Value} {N : Nat} {t : List UInt8} {va : Value} (h : RsAt w wx M vl N t va) (j : Nat) (v : Value) (hc : (msgCells M vl).setIfInBounds j v = msgCells M1 vl) (hl : M1.list = M.list) : RsAt w (wx.setCell ⟨w.heap.size + 1, j, none⟩ v) M1 vl N t va :=
  h.set j v hc (by rw [hl]; exact h.rm.nums)
theorem RsAt.two {w wx : World} {M : Msg} {vl : Value} {N : Nat} {t : List UInt8} {va : Value} (h : RsAt w wx M vl N t va) : wx.cell? ⟨N, 0, none⟩ = some (.string ⟨t.toArray⟩) ∧ wx.cell? ⟨N, 1, none⟩ = some va := by
  have h1 := h.seg
  constructor <;> (unfold World.cell?; rw [h1]; rfl)
theorem RsAt.new {w wx : World} {M : Msg} {vl : Value} (h : RmAt w wx M vl) (t : List UInt8) (va : Value) : RsAt w (wx.alloc (.cells #[.string ⟨t.toArray⟩, va] 49)) M vl wx.heap.size t va := by
  refine ⟨h.keep ((Below.refl _ _).alloc (Nat.le_refl _) _), ?_⟩
  show (wx.heap.push _)[wx.heap.size]? = some _
  simp
theorem rs_MSG {M : Msg} {s : Seg} (h : s.tag = tMSG) : rStep M s = { M with kind := numAt s 0, frm := numAt s 1, to_ := numAt s 2, num := numAt s 3, day := numAt s 4 } := by unfold rStep; rw [if_pos h]
theorem rs_LOT {M : Msg} {s : Seg} (h : s.tag = tLOT) : rStep M s = { M with lot := numAt s 0, other := numAt s 1 } := by unfold rStep; rw [h, if_neg (by decide), if_pos rfl]
theorem rs_GDS {M : Msg} {s : Seg} (h : s.tag = tGDS) : rStep M s = { M with code := wordL (atF s 0), ctry := wordL (atF s 1), qty := numAt s 2, amt := numAt s 3 } := by unfold rStep; rw [h, if_neg (by decide), if_neg (by decide), if_pos rfl]
theorem rs_LST {M : Msg} {s : Seg} (h : s.tag = tLST) : rStep M s = { M with list := (atF s 0).map numL } := by unfold rStep; rw [h, if_neg (by decide), if_neg (by decide), if_neg (by decide), if_pos rfl]
theorem rs_TXT {M : Msg} {s : Seg} (h : s.tag = tTXT) : rStep M s = { M with text := wordL (atF s 0) } := by unfold rStep; rw [h, if_neg (by decide), if_neg (by decide), if_neg (by decide), if_neg (by decide), if_pos rfl]
theorem rs_none {M : Msg} {s : Seg} (h1 : s.tag ≠ tMSG) (h2 : s.tag ≠ tLOT) (h3 : s.tag ≠ tGDS) (h4 : s.tag ≠ tLST) (h5 : s.tag ≠ tTXT) : rStep M s = M := by unfold rStep; rw [if_neg h1, if_neg h2, if_neg h3, if_neg h4, if_neg h5]
/-- Blocks made between two worlds. -/
def NewB (w w1 : World) (b : Nat) : Prop := w.heap.size ≤ b ∧ b < w1.heap.size
/-- Segments whose texts a machine holds. -/
def fitL (L : List Seg) : Prop := ∀ s ∈ L, fitE s.els
theorem tag_eq {a b : List UInt8} (h : a = b) : (a == b) = true := by rw [beq_iff_eq]; exact h
theorem tag_ne {a b : List UInt8} (h : a ≠ b) : (a == b) = false := by rw [beq_eq_false_iff_ne]; exact h

set_option maxRecDepth 100000 in
set_option maxHeartbeats 6400000 in
theorem lRead_any (v : Value) (L : List Seg) (w : World) (h : SegsIn (Has_ w) w v L) (hf : fitL L) (hL : MErr w) :
    Calls Tryd.prog 65 #[v] w fun e w' => ∃ vl, e = .returned (msgV (readM L) vl) ∧ NumsIn (NewB w w') w' vl (readM L).list ∧ Below w.heap.size w w' := by
  obtain ⟨ao, cap, rfl, hl, hc⟩ := h.form
  have hlb : L.length ≤ 9223372036854775807 := by unfold maxLen at hl; omega
  have HC := Lib.hid hc
  have HF := Lib.hid hf
  have HLw := Lib.hid hL
  have H0 := Lib.hid (RmAt.start w)
  obtain ⟨T, hT⟩ : ∃ T, T = readM L := ⟨_, rfl⟩
  rw [← hT]
  have HT := Lib.hid (show T = (L.drop 0).foldl rStep noMsg from hT)
  clear hT h hc hf hL hl
  unfold noCells at H0
  go_enter Tryd.func65, Tryd.ntmps65
  go_wp2_with fail
  generalize (w.alloc (.cells #[.int .i64 0, .int .i64 0, .int .i64 0, .int .i64 0, .int .i64 0, .int .i64 0, .int .i64 0, .string ⟨#[]⟩, .string ⟨#[]⟩, .int .i64 0, .int .i64 0, .slice none 0 0, .string ⟨#[]⟩] 24)).alloc (.cells #[.int .i64 0, .int .i64 0, .int .i64 0, .int .i64 0, .int .i64 0, .int .i64 0, .int .i64 0, .string ⟨#[]⟩, .string ⟨#[]⟩, .int .i64 0, .int .i64 0, .slice none 0 0, .string ⟨#[]⟩] 24) = W at *
  go_loopw [8] (fun vi wx => ∃ (i : Nat) (M : Msg) (vl : Value), vi = .int .i64 i ∧ i ≤ L.length ∧ Hid (RmAt w wx M vl) ∧ Hid (T = (L.drop i).foldl rStep M)) (fun vi _ => L.length - (intOf vi).toNat)
  case atStart => exact ⟨0, _, _, by go_num, by omega, H0, HT⟩
  case round =>
    clear H0 HT
    obtain ⟨i, M, vl, rfl, hi, HA0, HT⟩ := hrel
    by_cases hlt : i < L.length
    · have d1 : decide ((i : Int) < (L.length : Int)) = true := decide_eq_true (by omega)
      obtain ⟨s, hs⟩ : ∃ s, L[i]? = some s := ⟨_, List.getElem?_eq_getElem hlt⟩
      obtain ⟨a, va, rfl, t1, t2, hE, htl⟩ := HC.out i s hs
      have k1 := (HA0.out.below.cell (World.block_lt_of_cell? w _ t1)).trans t1
      have k2 := (HA0.out.below.cell (World.block_lt_of_cell? w _ t2)).trans t2
      obtain ⟨p, hp⟩ : ∃ p, a.add (i * 2) = p := ⟨_, rfl⟩
      rw [hp] at k1 k2
      have HEl := Lib.hid (fun W (hb : Below w.heap.size w W) => ElemsIn.keep hE (has_keep hb))
      have Hfit := Lib.hid (HF.out s (List.mem_of_getElem? hs))
      have HT1 := Lib.hid (show T = (L.drop (i + 1)).foldl rStep (rStep M s) from by
        have hd := drop_cons hs
        have h1 := HT.out
        rw [hd] at h1
        exact h1)
      have j1 : (0 : Int) ≤ (i : Int) := by omega
      have j2 : (i : Int) < (L.length : Int) := by omega
      obtain ⟨vo, vc, rfl, _⟩ := hE.form
      obtain ⟨el, hel⟩ : ∃ k, s.els.length = k := ⟨_, rfl⟩
      rw [hel] at HEl k2
      have HN : Hid (∀ (k : Nat) (W : World), Below w.heap.size w W → Calls Tryd.prog 75 #[.agg #[.string ⟨s.tag.toArray⟩, .slice vo el vc], .int .i64 k] W fun e w' => e = .returned (.int .i64 (numAt s k)) ∧ Below W.heap.size W w') := Lib.hid (fun k W hb => lNumber_any s.tag _ s.els k W (HEl.out W hb) Hfit.out (HLw.out.keep hb))
      have HCo : Hid (∀ (k : Nat) (W : World), Below w.heap.size w W → Calls Tryd.prog 76 #[.agg #[.string ⟨s.tag.toArray⟩, .slice vo el vc], .int .i64 k] W fun e w' => e = .returned (.string ⟨(wordL (atF s k)).toArray⟩) ∧ Below W.heap.size W w') := Lib.hid (fun k W hb => lComponent_any s.tag _ s.els k W (HEl.out W hb))
      have HNs : Hid (∀ (k : Nat) (W : World), Below w.heap.size w W → Calls Tryd.prog 77 #[.agg #[.string ⟨s.tag.toArray⟩, .slice vo el vc], .int .i64 k] W fun e w' => ∃ u, e = .returned u ∧ NumsIn (fun b => W.heap.size ≤ b ∧ b < w'.heap.size) w' u ((atF s k).map numL) ∧ Below W.heap.size W w') := Lib.hid (fun k W hb => lNumbers_any s.tag _ s.els k W (HEl.out W hb) Hfit.out (HLw.out.keep hb))
      have HS := Lib.hid (RsAt.new HA0.out s.tag (.slice vo el vc))
      unfold strV at k1
      clear t1 t2 hE htl hs HEl Hfit HA0 HT hel
      go_upto_region 5 with fail
      generalize wr.alloc (.cells #[.string ⟨s.tag.toArray⟩, .slice vo el vc] 49) = W1 at *
      generalize wr.heap.size = N at *
      obtain ⟨q0, q1⟩ := HS.out.two
      by_cases h1 : s.tag = tMSG
      · have z1 : (s.tag == [77, 83, 71]) = true := tag_eq h1
        have Ht := Lib.hid h1
        clear h1
        go_upto_region 7 with fail
        refine wp_region_noPanic ?_
        refine wp_region_held_drew (S := fun w' => w'.cell? ⟨N, 0, none⟩ = some (.string ⟨s.tag.toArray⟩) ∧ w'.cell? ⟨N, 1, none⟩ = some (.slice vo el vc)) (by kernel_rfl) ⟨q0, q1⟩ (fun hHeld => ?_)
        replace HS := Lib.hid (HS.out.keep (Below.refl _ _).drew)
        generalize World.drew _ = W5 at *
        clear q0 q1
        obtain ⟨q0, q1⟩ := HS.out.two
        refine wpAnyH_take (i := 0) (v := ?_) rfl (by kernel_rfl) (by kernel_rfl) (by kernel_rfl) (fun _ _ _ h => h) (Or.inl ⟨by rfl, ?_⟩) (by assumption) ?_
        rotate_left
        · intro wS hSw
          obtain ⟨hSw1, hSw2⟩ := hSw
          go_simp <;> with_reducible rfl
        try simp only [Act.put, List.getElem_toArray, List.getElem_cons_zero, List.setIfInBounds_toArray, List.set_cons_zero, List.set_cons_succ]
        refine wpAnyH_take (i := 2) (v := ?_) rfl (by kernel_rfl) (by kernel_rfl) (by kernel_rfl) (fun _ _ _ h => h) (Or.inl ⟨by rfl, ?_⟩) (by assumption) ?_
        rotate_left
        · intro wS hSw
          obtain ⟨hSw1, hSw2⟩ := hSw
          go_simp <;> with_reducible rfl
        try simp only [Act.put, List.getElem_toArray, List.getElem_cons_succ, List.getElem_cons_zero, List.setIfInBounds_toArray, List.set_cons_zero, List.set_cons_succ]
        refine wpAnyH_take (i := 4) (v := ?_) rfl (by kernel_rfl) (by kernel_rfl) (by kernel_rfl) (fun _ _ _ h => h) (Or.inl ⟨by rfl, ?_⟩) (by assumption) ?_
        rotate_left
        · intro wS hSw
          obtain ⟨hSw1, hSw2⟩ := hSw
          go_simp <;> with_reducible rfl
        try simp only [Act.put, List.getElem_toArray, List.getElem_cons_succ, List.getElem_cons_zero, List.setIfInBounds_toArray, List.set_cons_zero, List.set_cons_succ]
        refine wpAnyH_ready (rs := [1]) (by kernel_rfl) (by simp) ?_
        refine AllReadyH.cons rfl (fun K hK => ?_) AllReadyH.nil
        go_simp
        refine (HN.out 0 _ HS.out.rm.below).mono ?_
        rintro e wA ⟨rfl, hbA⟩
        replace HS := Lib.hid (HS.out.keep hbA)
        clear hbA q0 q1
        obtain ⟨q0, q1⟩ := HS.out.two
        refine hK.out _ _ (⟨q0, q1⟩) (fun hHeld => ?_)
        clear hK K
        try simp only [Act.put, List.getElem_toArray, List.getElem_cons_succ, List.getElem_cons_zero, List.setIfInBounds_toArray, List.set_cons_zero, List.set_cons_succ]
        refine wpAnyH_take (i := 6) (v := ?_) rfl (by kernel_rfl) (by kernel_rfl) (by kernel_rfl) (fun _ _ _ h => h) (Or.inl ⟨by rfl, ?_⟩) (by assumption) ?_
        rotate_left
        · intro wS hSw
          obtain ⟨hSw1, hSw2⟩ := hSw
          go_simp <;> with_reducible rfl
        try simp only [Act.put, List.getElem_toArray, List.getElem_cons_succ, List.getElem_cons_zero, List.setIfInBounds_toArray, List.set_cons_zero, List.set_cons_succ]
        refine wpAnyH_ready (rs := [3]) (by kernel_rfl) (by simp) ?_
        refine AllReadyH.cons rfl (fun K hK => ?_) AllReadyH.nil
        go_simp
        refine (HN.out 1 _ HS.out.rm.below).mono ?_
        rintro e wA ⟨rfl, hbA⟩
        replace HS := Lib.hid (HS.out.keep hbA)
        clear hbA q0 q1
        obtain ⟨q0, q1⟩ := HS.out.two
        refine hK.out _ _ (⟨q0, q1⟩) (fun hHeld => ?_)
        clear hK K
        try simp only [Act.put, List.getElem_toArray, List.getElem_cons_succ, List.getElem_cons_zero, List.setIfInBounds_toArray, List.set_cons_zero, List.set_cons_succ]
        refine wpAnyH_ready (rs := [5]) (by kernel_rfl) (by simp) ?_
        refine AllReadyH.cons rfl (fun K hK => ?_) AllReadyH.nil
        go_simp
        refine (HN.out 2 _ HS.out.rm.below).mono ?_
        rintro e wA ⟨rfl, hbA⟩
        replace HS := Lib.hid (HS.out.keep hbA)
        clear hbA q0 q1
        obtain ⟨q0, q1⟩ := HS.out.two
        refine hK.out _ _ (⟨q0, q1⟩) (fun hHeld => ?_)
        clear hK K
        try simp only [Act.put, List.getElem_toArray, List.getElem_cons_succ, List.getElem_cons_zero, List.setIfInBounds_toArray, List.set_cons_zero, List.set_cons_succ]
        refine wpAnyH_ready (rs := [7]) (by kernel_rfl) (by simp) ?_
        refine AllReadyH.cons rfl (fun K hK => ?_) AllReadyH.nil
        have c0 := HS.out.rm.cells.c0
        have f0 := HS.out.rm.free 0
        go_simp
        replace HS := Lib.hid (HS.out.put 0 (.int .i64 (numAt s 0)) (M1 := { M with kind := numAt s 0 }) rfl rfl)
        clear c0 f0 q0 q1
        obtain ⟨q0, q1⟩ := HS.out.two
        refine hK.out _ _ (⟨q0, q1⟩) (fun hHeld => ?_)
        clear hK K
        try simp only [Act.put, List.getElem_toArray, List.getElem_cons_succ, List.getElem_cons_zero, List.setIfInBounds_toArray, List.set_cons_zero, List.set_cons_succ]
        refine wpAnyH_take (i := 8) (v := ?_) rfl (by kernel_rfl) (by kernel_rfl) (by kernel_rfl) (fun _ _ _ h => h) (Or.inl ⟨by rfl, ?_⟩) (by assumption) ?_
        rotate_left
        · intro wS hSw
          obtain ⟨hSw1, hSw2⟩ := hSw
          go_simp <;> with_reducible rfl
        try simp only [Act.put, List.getElem_toArray, List.getElem_cons_succ, List.getElem_cons_zero, List.setIfInBounds_toArray, List.set_cons_zero, List.set_cons_succ]
        refine wpAnyH_ready (rs := [9]) (by kernel_rfl) (by simp) ?_
        refine AllReadyH.cons rfl (fun K hK => ?_) AllReadyH.nil
        have c1 := HS.out.rm.cells.c1
        have f0 := HS.out.rm.free 1
        go_simp
        replace HS := Lib.hid (HS.out.put 1 (.int .i64 (numAt s 1)) (M1 := { M with kind := numAt s 0, frm := numAt s 1 }) rfl rfl)
        clear c1 f0 q0 q1
        obtain ⟨q0, q1⟩ := HS.out.two
        refine hK.out _ _ (⟨q0, q1⟩) (fun hHeld => ?_)
        clear hK K
        try simp only [Act.put, List.getElem_toArray, List.getElem_cons_succ, List.getElem_cons_zero, List.setIfInBounds_toArray, List.set_cons_zero, List.set_cons_succ]
        refine wpAnyH_take (i := 10) (v := ?_) rfl (by kernel_rfl) (by kernel_rfl) (by kernel_rfl) (fun _ _ _ h => h) (Or.inl ⟨by rfl, ?_⟩) (by assumption) ?_
        rotate_left
        · intro wS hSw
          obtain ⟨hSw1, hSw2⟩ := hSw
          go_simp <;> with_reducible rfl
        try simp only [Act.put, List.getElem_toArray, List.getElem_cons_succ, List.getElem_cons_zero, List.setIfInBounds_toArray, List.set_cons_zero, List.set_cons_succ]
        refine wpAnyH_ready (rs := [11]) (by kernel_rfl) (by simp) ?_
        refine AllReadyH.cons rfl (fun K hK => ?_) AllReadyH.nil
        have c2 := HS.out.rm.cells.c2
        have f0 := HS.out.rm.free 2
        go_simp
        replace HS := Lib.hid (HS.out.put 2 (.int .i64 (numAt s 2)) (M1 := { M with kind := numAt s 0, frm := numAt s 1, to_ := numAt s 2 }) rfl rfl)
        clear c2 f0 q0 q1
        obtain ⟨q0, q1⟩ := HS.out.two
        refine hK.out _ _ (⟨q0, q1⟩) (fun hHeld => ?_)
        clear hK K
        try simp only [Act.put, List.getElem_toArray, List.getElem_cons_succ, List.getElem_cons_zero, List.setIfInBounds_toArray, List.set_cons_zero, List.set_cons_succ]
        refine wpAnyH_done (by kernel_rfl) ?_ _
        refine NoPanic.normal ?_
        clear hHeld
        go_upto_region 8 with fail
        refine wp_region_noPanic ?_
        refine wp_region_held_drew (S := fun w' => w'.cell? ⟨N, 0, none⟩ = some (.string ⟨s.tag.toArray⟩) ∧ w'.cell? ⟨N, 1, none⟩ = some (.slice vo el vc)) (by kernel_rfl) ⟨q0, q1⟩ (fun hHeld => ?_)
        replace HS := Lib.hid (HS.out.keep (Below.refl _ _).drew)
        generalize World.drew _ = W5 at *
        clear q0 q1
        obtain ⟨q0, q1⟩ := HS.out.two
        refine wpAnyH_take (i := 0) (v := ?_) rfl (by kernel_rfl) (by kernel_rfl) (by kernel_rfl) (fun _ _ _ h => h) (Or.inl ⟨by rfl, ?_⟩) (by assumption) ?_
        rotate_left
        · intro wS hSw
          obtain ⟨hSw1, hSw2⟩ := hSw
          go_simp <;> with_reducible rfl
        try simp only [Act.put, List.getElem_toArray, List.getElem_cons_zero, List.setIfInBounds_toArray, List.set_cons_zero, List.set_cons_succ]
        refine wpAnyH_take (i := 2) (v := ?_) rfl (by kernel_rfl) (by kernel_rfl) (by kernel_rfl) (fun _ _ _ h => h) (Or.inl ⟨by rfl, ?_⟩) (by assumption) ?_
        rotate_left
        · intro wS hSw
          obtain ⟨hSw1, hSw2⟩ := hSw
          go_simp <;> with_reducible rfl
        try simp only [Act.put, List.getElem_toArray, List.getElem_cons_succ, List.getElem_cons_zero, List.setIfInBounds_toArray, List.set_cons_zero, List.set_cons_succ]
        refine wpAnyH_ready (rs := [1]) (by kernel_rfl) (by simp) ?_
        refine AllReadyH.cons rfl (fun K hK => ?_) AllReadyH.nil
        go_simp
        refine (HN.out 3 _ HS.out.rm.below).mono ?_
        rintro e wA ⟨rfl, hbA⟩
        replace HS := Lib.hid (HS.out.keep hbA)
        clear hbA q0 q1
        obtain ⟨q0, q1⟩ := HS.out.two
        refine hK.out _ _ (⟨q0, q1⟩) (fun hHeld => ?_)
        clear hK K
        try simp only [Act.put, List.getElem_toArray, List.getElem_cons_succ, List.getElem_cons_zero, List.setIfInBounds_toArray, List.set_cons_zero, List.set_cons_succ]
        refine wpAnyH_take (i := 4) (v := ?_) rfl (by kernel_rfl) (by kernel_rfl) (by kernel_rfl) (fun _ _ _ h => h) (Or.inl ⟨by rfl, ?_⟩) (by assumption) ?_
        rotate_left
        · intro wS hSw
          obtain ⟨hSw1, hSw2⟩ := hSw
          go_simp <;> with_reducible rfl
        try simp only [Act.put, List.getElem_toArray, List.getElem_cons_succ, List.getElem_cons_zero, List.setIfInBounds_toArray, List.set_cons_zero, List.set_cons_succ]
        refine wpAnyH_ready (rs := [3]) (by kernel_rfl) (by simp) ?_
        refine AllReadyH.cons rfl (fun K hK => ?_) AllReadyH.nil
        go_simp
        refine (HN.out 4 _ HS.out.rm.below).mono ?_
        rintro e wA ⟨rfl, hbA⟩
        replace HS := Lib.hid (HS.out.keep hbA)
        clear hbA q0 q1
        obtain ⟨q0, q1⟩ := HS.out.two
        refine hK.out _ _ (⟨q0, q1⟩) (fun hHeld => ?_)
        clear hK K
        try simp only [Act.put, List.getElem_toArray, List.getElem_cons_succ, List.getElem_cons_zero, List.setIfInBounds_toArray, List.set_cons_zero, List.set_cons_succ]
        refine wpAnyH_ready (rs := [5]) (by kernel_rfl) (by simp) ?_
        refine AllReadyH.cons rfl (fun K hK => ?_) AllReadyH.nil
        have c3 := HS.out.rm.cells.c3
        have f0 := HS.out.rm.free 3
        go_simp
        replace HS := Lib.hid (HS.out.put 3 (.int .i64 (numAt s 3)) (M1 := { M with kind := numAt s 0, frm := numAt s 1, to_ := numAt s 2, num := numAt s 3 }) rfl rfl)
        clear c3 f0 q0 q1
        obtain ⟨q0, q1⟩ := HS.out.two
        refine hK.out _ _ (⟨q0, q1⟩) (fun hHeld => ?_)
        clear hK K
        try simp only [Act.put, List.getElem_toArray, List.getElem_cons_succ, List.getElem_cons_zero, List.setIfInBounds_toArray, List.set_cons_zero, List.set_cons_succ]
        refine wpAnyH_take (i := 6) (v := ?_) rfl (by kernel_rfl) (by kernel_rfl) (by kernel_rfl) (fun _ _ _ h => h) (Or.inl ⟨by rfl, ?_⟩) (by assumption) ?_
        rotate_left
        · intro wS hSw
          obtain ⟨hSw1, hSw2⟩ := hSw
          go_simp <;> with_reducible rfl
        try simp only [Act.put, List.getElem_toArray, List.getElem_cons_succ, List.getElem_cons_zero, List.setIfInBounds_toArray, List.set_cons_zero, List.set_cons_succ]
        refine wpAnyH_ready (rs := [7]) (by kernel_rfl) (by simp) ?_
        refine AllReadyH.cons rfl (fun K hK => ?_) AllReadyH.nil
        have c4 := HS.out.rm.cells.c4
        have f0 := HS.out.rm.free 4
        go_simp
        replace HS := Lib.hid (HS.out.put 4 (.int .i64 (numAt s 4)) (M1 := { M with kind := numAt s 0, frm := numAt s 1, to_ := numAt s 2, num := numAt s 3, day := numAt s 4 }) rfl rfl)
        clear c4 f0 q0 q1
        obtain ⟨q0, q1⟩ := HS.out.two
        refine hK.out _ _ (⟨q0, q1⟩) (fun hHeld => ?_)
        clear hK K
        try simp only [Act.put, List.getElem_toArray, List.getElem_cons_succ, List.getElem_cons_zero, List.setIfInBounds_toArray, List.set_cons_zero, List.set_cons_succ]
        refine wpAnyH_done (by kernel_rfl) ?_ _
        refine NoPanic.normal ?_
        clear hHeld
        have HF9 := Lib.hid (show T = (L.drop (i + 1)).foldl rStep _ from by rw [HT1.out, rs_MSG Ht.out])
        have HM9 := Lib.hid HS.out.rm
        clear HS HN HCo HNs HT1 q0 q1
        go_wp2_with fail
        go_roundw
        case rel => exact ⟨i + 1, _, _, by go_num, by omega, HM9, HF9⟩
        case measure => simp [intOf]; omega
      · have z1 : (s.tag == [77, 83, 71]) = false := tag_ne h1
        by_cases h2 : s.tag = tLOT
        · have z2 : (s.tag == [76, 79, 84]) = true := tag_eq h2
          have Ht := Lib.hid h2
          clear h1 h2
          go_upto_region 10 with fail
          refine wp_region_noPanic ?_
          refine wp_region_held_drew (S := fun w' => w'.cell? ⟨N, 0, none⟩ = some (.string ⟨s.tag.toArray⟩) ∧ w'.cell? ⟨N, 1, none⟩ = some (.slice vo el vc)) (by kernel_rfl) ⟨q0, q1⟩ (fun hHeld => ?_)
          replace HS := Lib.hid (HS.out.keep (Below.refl _ _).drew)
          generalize World.drew _ = W5 at *
          clear q0 q1
          obtain ⟨q0, q1⟩ := HS.out.two
          refine wpAnyH_take (i := 0) (v := ?_) rfl (by kernel_rfl) (by kernel_rfl) (by kernel_rfl) (fun _ _ _ h => h) (Or.inl ⟨by rfl, ?_⟩) (by assumption) ?_
          rotate_left
          · intro wS hSw
            obtain ⟨hSw1, hSw2⟩ := hSw
            go_simp <;> with_reducible rfl
          try simp only [Act.put, List.getElem_toArray, List.getElem_cons_zero, List.setIfInBounds_toArray, List.set_cons_zero, List.set_cons_succ]
          refine wpAnyH_take (i := 2) (v := ?_) rfl (by kernel_rfl) (by kernel_rfl) (by kernel_rfl) (fun _ _ _ h => h) (Or.inl ⟨by rfl, ?_⟩) (by assumption) ?_
          rotate_left
          · intro wS hSw
            obtain ⟨hSw1, hSw2⟩ := hSw
            go_simp <;> with_reducible rfl
          try simp only [Act.put, List.getElem_toArray, List.getElem_cons_succ, List.getElem_cons_zero, List.setIfInBounds_toArray, List.set_cons_zero, List.set_cons_succ]
          refine wpAnyH_ready (rs := [1]) (by kernel_rfl) (by simp) ?_
          refine AllReadyH.cons rfl (fun K hK => ?_) AllReadyH.nil
          go_simp
          refine (HN.out 0 _ HS.out.rm.below).mono ?_
          rintro e wA ⟨rfl, hbA⟩
          replace HS := Lib.hid (HS.out.keep hbA)
          clear hbA q0 q1
          obtain ⟨q0, q1⟩ := HS.out.two
          refine hK.out _ _ (⟨q0, q1⟩) (fun hHeld => ?_)
          clear hK K
          try simp only [Act.put, List.getElem_toArray, List.getElem_cons_succ, List.getElem_cons_zero, List.setIfInBounds_toArray, List.set_cons_zero, List.set_cons_succ]
          refine wpAnyH_take (i := 4) (v := ?_) rfl (by kernel_rfl) (by kernel_rfl) (by kernel_rfl) (fun _ _ _ h => h) (Or.inl ⟨by rfl, ?_⟩) (by assumption) ?_
          rotate_left
          · intro wS hSw
            obtain ⟨hSw1, hSw2⟩ := hSw
            go_simp <;> with_reducible rfl
          try simp only [Act.put, List.getElem_toArray, List.getElem_cons_succ, List.getElem_cons_zero, List.setIfInBounds_toArray, List.set_cons_zero, List.set_cons_succ]
          refine wpAnyH_ready (rs := [3]) (by kernel_rfl) (by simp) ?_
          refine AllReadyH.cons rfl (fun K hK => ?_) AllReadyH.nil
          go_simp
          refine (HN.out 1 _ HS.out.rm.below).mono ?_
          rintro e wA ⟨rfl, hbA⟩
          replace HS := Lib.hid (HS.out.keep hbA)
          clear hbA q0 q1
          obtain ⟨q0, q1⟩ := HS.out.two
          refine hK.out _ _ (⟨q0, q1⟩) (fun hHeld => ?_)
          clear hK K
          try simp only [Act.put, List.getElem_toArray, List.getElem_cons_succ, List.getElem_cons_zero, List.setIfInBounds_toArray, List.set_cons_zero, List.set_cons_succ]
          refine wpAnyH_ready (rs := [5]) (by kernel_rfl) (by simp) ?_
          refine AllReadyH.cons rfl (fun K hK => ?_) AllReadyH.nil
          have c5 := HS.out.rm.cells.c5
          have f0 := HS.out.rm.free 5
          go_simp
          replace HS := Lib.hid (HS.out.put 5 (.int .i64 (numAt s 0)) (M1 := { M with lot := numAt s 0 }) rfl rfl)
          clear c5 f0 q0 q1
          obtain ⟨q0, q1⟩ := HS.out.two
          refine hK.out _ _ (⟨q0, q1⟩) (fun hHeld => ?_)
          clear hK K
          try simp only [Act.put, List.getElem_toArray, List.getElem_cons_succ, List.getElem_cons_zero, List.setIfInBounds_toArray, List.set_cons_zero, List.set_cons_succ]
          refine wpAnyH_take (i := 6) (v := ?_) rfl (by kernel_rfl) (by kernel_rfl) (by kernel_rfl) (fun _ _ _ h => h) (Or.inl ⟨by rfl, ?_⟩) (by assumption) ?_
          rotate_left
          · intro wS hSw
            obtain ⟨hSw1, hSw2⟩ := hSw
            go_simp <;> with_reducible rfl
          try simp only [Act.put, List.getElem_toArray, List.getElem_cons_succ, List.getElem_cons_zero, List.setIfInBounds_toArray, List.set_cons_zero, List.set_cons_succ]
          refine wpAnyH_ready (rs := [7]) (by kernel_rfl) (by simp) ?_
          refine AllReadyH.cons rfl (fun K hK => ?_) AllReadyH.nil
          have c6 := HS.out.rm.cells.c6
          have f0 := HS.out.rm.free 6
          go_simp
          replace HS := Lib.hid (HS.out.put 6 (.int .i64 (numAt s 1)) (M1 := { M with lot := numAt s 0, other := numAt s 1 }) rfl rfl)
          clear c6 f0 q0 q1
          obtain ⟨q0, q1⟩ := HS.out.two
          refine hK.out _ _ (⟨q0, q1⟩) (fun hHeld => ?_)
          clear hK K
          try simp only [Act.put, List.getElem_toArray, List.getElem_cons_succ, List.getElem_cons_zero, List.setIfInBounds_toArray, List.set_cons_zero, List.set_cons_succ]
          refine wpAnyH_done (by kernel_rfl) ?_ _
          refine NoPanic.normal ?_
          clear hHeld
          have HF9 := Lib.hid (show T = (L.drop (i + 1)).foldl rStep _ from by rw [HT1.out, rs_LOT Ht.out])
          have HM9 := Lib.hid HS.out.rm
          clear HS HN HCo HNs HT1 q0 q1
          go_wp2_with fail
          go_roundw
          case rel => exact ⟨i + 1, _, _, by go_num, by omega, HM9, HF9⟩
          case measure => simp [intOf]; omega
        · have z2 : (s.tag == [76, 79, 84]) = false := tag_ne h2
          by_cases h3 : s.tag = tGDS
          · have z3 : (s.tag == [71, 68, 83]) = true := tag_eq h3
            have Ht := Lib.hid h3
            clear h1 h2 h3
            go_upto_region 12 with fail
            refine wp_region_noPanic ?_
            refine wp_region_held_drew (S := fun w' => w'.cell? ⟨N, 0, none⟩ = some (.string ⟨s.tag.toArray⟩) ∧ w'.cell? ⟨N, 1, none⟩ = some (.slice vo el vc)) (by kernel_rfl) ⟨q0, q1⟩ (fun hHeld => ?_)
            replace HS := Lib.hid (HS.out.keep (Below.refl _ _).drew)
            generalize World.drew _ = W5 at *
            clear q0 q1
            obtain ⟨q0, q1⟩ := HS.out.two
            refine wpAnyH_take (i := 0) (v := ?_) rfl (by kernel_rfl) (by kernel_rfl) (by kernel_rfl) (fun _ _ _ h => h) (Or.inl ⟨by rfl, ?_⟩) (by assumption) ?_
            rotate_left
            · intro wS hSw
              obtain ⟨hSw1, hSw2⟩ := hSw
              go_simp <;> with_reducible rfl
            try simp only [Act.put, List.getElem_toArray, List.getElem_cons_zero, List.setIfInBounds_toArray, List.set_cons_zero, List.set_cons_succ]
            refine wpAnyH_take (i := 2) (v := ?_) rfl (by kernel_rfl) (by kernel_rfl) (by kernel_rfl) (fun _ _ _ h => h) (Or.inl ⟨by rfl, ?_⟩) (by assumption) ?_
            rotate_left
            · intro wS hSw
              obtain ⟨hSw1, hSw2⟩ := hSw
              go_simp <;> with_reducible rfl
            try simp only [Act.put, List.getElem_toArray, List.getElem_cons_succ, List.getElem_cons_zero, List.setIfInBounds_toArray, List.set_cons_zero, List.set_cons_succ]
            refine wpAnyH_ready (rs := [1]) (by kernel_rfl) (by simp) ?_
            refine AllReadyH.cons rfl (fun K hK => ?_) AllReadyH.nil
            go_simp
            refine (HCo.out 0 _ HS.out.rm.below).mono ?_
            rintro e wA ⟨rfl, hbA⟩
            replace HS := Lib.hid (HS.out.keep hbA)
            clear hbA q0 q1
            obtain ⟨q0, q1⟩ := HS.out.two
            refine hK.out _ _ (⟨q0, q1⟩) (fun hHeld => ?_)
            clear hK K
            try simp only [Act.put, List.getElem_toArray, List.getElem_cons_succ, List.getElem_cons_zero, List.setIfInBounds_toArray, List.set_cons_zero, List.set_cons_succ]
            refine wpAnyH_take (i := 4) (v := ?_) rfl (by kernel_rfl) (by kernel_rfl) (by kernel_rfl) (fun _ _ _ h => h) (Or.inl ⟨by rfl, ?_⟩) (by assumption) ?_
            rotate_left
            · intro wS hSw
              obtain ⟨hSw1, hSw2⟩ := hSw
              go_simp <;> with_reducible rfl
            try simp only [Act.put, List.getElem_toArray, List.getElem_cons_succ, List.getElem_cons_zero, List.setIfInBounds_toArray, List.set_cons_zero, List.set_cons_succ]
            refine wpAnyH_ready (rs := [3]) (by kernel_rfl) (by simp) ?_
            refine AllReadyH.cons rfl (fun K hK => ?_) AllReadyH.nil
            go_simp
            refine (HCo.out 1 _ HS.out.rm.below).mono ?_
            rintro e wA ⟨rfl, hbA⟩
            replace HS := Lib.hid (HS.out.keep hbA)
            clear hbA q0 q1
            obtain ⟨q0, q1⟩ := HS.out.two
            refine hK.out _ _ (⟨q0, q1⟩) (fun hHeld => ?_)
            clear hK K
            try simp only [Act.put, List.getElem_toArray, List.getElem_cons_succ, List.getElem_cons_zero, List.setIfInBounds_toArray, List.set_cons_zero, List.set_cons_succ]
            refine wpAnyH_ready (rs := [5]) (by kernel_rfl) (by simp) ?_
            refine AllReadyH.cons rfl (fun K hK => ?_) AllReadyH.nil
            have c7 := HS.out.rm.cells.c7
            have f0 := HS.out.rm.free 7
            go_simp
            replace HS := Lib.hid (HS.out.put 7 (.string ⟨(wordL (atF s 0)).toArray⟩) (M1 := { M with code := wordL (atF s 0) }) rfl rfl)
            clear c7 f0 q0 q1
            obtain ⟨q0, q1⟩ := HS.out.two
            refine hK.out _ _ (⟨q0, q1⟩) (fun hHeld => ?_)
            clear hK K
            try simp only [Act.put, List.getElem_toArray, List.getElem_cons_succ, List.getElem_cons_zero, List.setIfInBounds_toArray, List.set_cons_zero, List.set_cons_succ]
            refine wpAnyH_take (i := 6) (v := ?_) rfl (by kernel_rfl) (by kernel_rfl) (by kernel_rfl) (fun _ _ _ h => h) (Or.inl ⟨by rfl, ?_⟩) (by assumption) ?_
            rotate_left
            · intro wS hSw
              obtain ⟨hSw1, hSw2⟩ := hSw
              go_simp <;> with_reducible rfl
            try simp only [Act.put, List.getElem_toArray, List.getElem_cons_succ, List.getElem_cons_zero, List.setIfInBounds_toArray, List.set_cons_zero, List.set_cons_succ]
            refine wpAnyH_ready (rs := [7]) (by kernel_rfl) (by simp) ?_
            refine AllReadyH.cons rfl (fun K hK => ?_) AllReadyH.nil
            have c8 := HS.out.rm.cells.c8
            have f0 := HS.out.rm.free 8
            go_simp
            replace HS := Lib.hid (HS.out.put 8 (.string ⟨(wordL (atF s 1)).toArray⟩) (M1 := { M with code := wordL (atF s 0), ctry := wordL (atF s 1) }) rfl rfl)
            clear c8 f0 q0 q1
            obtain ⟨q0, q1⟩ := HS.out.two
            refine hK.out _ _ (⟨q0, q1⟩) (fun hHeld => ?_)
            clear hK K
            try simp only [Act.put, List.getElem_toArray, List.getElem_cons_succ, List.getElem_cons_zero, List.setIfInBounds_toArray, List.set_cons_zero, List.set_cons_succ]
            refine wpAnyH_done (by kernel_rfl) ?_ _
            refine NoPanic.normal ?_
            clear hHeld
            go_upto_region 13 with fail
            refine wp_region_noPanic ?_
            refine wp_region_held_drew (S := fun w' => w'.cell? ⟨N, 0, none⟩ = some (.string ⟨s.tag.toArray⟩) ∧ w'.cell? ⟨N, 1, none⟩ = some (.slice vo el vc)) (by kernel_rfl) ⟨q0, q1⟩ (fun hHeld => ?_)
            replace HS := Lib.hid (HS.out.keep (Below.refl _ _).drew)
            generalize World.drew _ = W5 at *
            clear q0 q1
            obtain ⟨q0, q1⟩ := HS.out.two
            refine wpAnyH_take (i := 0) (v := ?_) rfl (by kernel_rfl) (by kernel_rfl) (by kernel_rfl) (fun _ _ _ h => h) (Or.inl ⟨by rfl, ?_⟩) (by assumption) ?_
            rotate_left
            · intro wS hSw
              obtain ⟨hSw1, hSw2⟩ := hSw
              go_simp <;> with_reducible rfl
            try simp only [Act.put, List.getElem_toArray, List.getElem_cons_zero, List.setIfInBounds_toArray, List.set_cons_zero, List.set_cons_succ]
            refine wpAnyH_take (i := 2) (v := ?_) rfl (by kernel_rfl) (by kernel_rfl) (by kernel_rfl) (fun _ _ _ h => h) (Or.inl ⟨by rfl, ?_⟩) (by assumption) ?_
            rotate_left
            · intro wS hSw
              obtain ⟨hSw1, hSw2⟩ := hSw
              go_simp <;> with_reducible rfl
            try simp only [Act.put, List.getElem_toArray, List.getElem_cons_succ, List.getElem_cons_zero, List.setIfInBounds_toArray, List.set_cons_zero, List.set_cons_succ]
            refine wpAnyH_ready (rs := [1]) (by kernel_rfl) (by simp) ?_
            refine AllReadyH.cons rfl (fun K hK => ?_) AllReadyH.nil
            go_simp
            refine (HN.out 2 _ HS.out.rm.below).mono ?_
            rintro e wA ⟨rfl, hbA⟩
            replace HS := Lib.hid (HS.out.keep hbA)
            clear hbA q0 q1
            obtain ⟨q0, q1⟩ := HS.out.two
            refine hK.out _ _ (⟨q0, q1⟩) (fun hHeld => ?_)
            clear hK K
            try simp only [Act.put, List.getElem_toArray, List.getElem_cons_succ, List.getElem_cons_zero, List.setIfInBounds_toArray, List.set_cons_zero, List.set_cons_succ]
            refine wpAnyH_take (i := 4) (v := ?_) rfl (by kernel_rfl) (by kernel_rfl) (by kernel_rfl) (fun _ _ _ h => h) (Or.inl ⟨by rfl, ?_⟩) (by assumption) ?_
            rotate_left
            · intro wS hSw
              obtain ⟨hSw1, hSw2⟩ := hSw
              go_simp <;> with_reducible rfl
            try simp only [Act.put, List.getElem_toArray, List.getElem_cons_succ, List.getElem_cons_zero, List.setIfInBounds_toArray, List.set_cons_zero, List.set_cons_succ]
            refine wpAnyH_ready (rs := [3]) (by kernel_rfl) (by simp) ?_
            refine AllReadyH.cons rfl (fun K hK => ?_) AllReadyH.nil
            go_simp
            refine (HN.out 3 _ HS.out.rm.below).mono ?_
            rintro e wA ⟨rfl, hbA⟩
            replace HS := Lib.hid (HS.out.keep hbA)
            clear hbA q0 q1
            obtain ⟨q0, q1⟩ := HS.out.two
            refine hK.out _ _ (⟨q0, q1⟩) (fun hHeld => ?_)
            clear hK K
            try simp only [Act.put, List.getElem_toArray, List.getElem_cons_succ, List.getElem_cons_zero, List.setIfInBounds_toArray, List.set_cons_zero, List.set_cons_succ]
            refine wpAnyH_ready (rs := [5]) (by kernel_rfl) (by simp) ?_
            refine AllReadyH.cons rfl (fun K hK => ?_) AllReadyH.nil
            have c9 := HS.out.rm.cells.c9
            have f0 := HS.out.rm.free 9
            go_simp
            replace HS := Lib.hid (HS.out.put 9 (.int .i64 (numAt s 2)) (M1 := { M with code := wordL (atF s 0), ctry := wordL (atF s 1), qty := numAt s 2 }) rfl rfl)
            clear c9 f0 q0 q1
            obtain ⟨q0, q1⟩ := HS.out.two
            refine hK.out _ _ (⟨q0, q1⟩) (fun hHeld => ?_)
            clear hK K
            try simp only [Act.put, List.getElem_toArray, List.getElem_cons_succ, List.getElem_cons_zero, List.setIfInBounds_toArray, List.set_cons_zero, List.set_cons_succ]
            refine wpAnyH_take (i := 6) (v := ?_) rfl (by kernel_rfl) (by kernel_rfl) (by kernel_rfl) (fun _ _ _ h => h) (Or.inl ⟨by rfl, ?_⟩) (by assumption) ?_
            rotate_left
            · intro wS hSw
              obtain ⟨hSw1, hSw2⟩ := hSw
              go_simp <;> with_reducible rfl
            try simp only [Act.put, List.getElem_toArray, List.getElem_cons_succ, List.getElem_cons_zero, List.setIfInBounds_toArray, List.set_cons_zero, List.set_cons_succ]
            refine wpAnyH_ready (rs := [7]) (by kernel_rfl) (by simp) ?_
            refine AllReadyH.cons rfl (fun K hK => ?_) AllReadyH.nil
            have c10 := HS.out.rm.cells.c10
            have f0 := HS.out.rm.free 10
            go_simp
            replace HS := Lib.hid (HS.out.put 10 (.int .i64 (numAt s 3)) (M1 := { M with code := wordL (atF s 0), ctry := wordL (atF s 1), qty := numAt s 2, amt := numAt s 3 }) rfl rfl)
            clear c10 f0 q0 q1
            obtain ⟨q0, q1⟩ := HS.out.two
            refine hK.out _ _ (⟨q0, q1⟩) (fun hHeld => ?_)
            clear hK K
            try simp only [Act.put, List.getElem_toArray, List.getElem_cons_succ, List.getElem_cons_zero, List.setIfInBounds_toArray, List.set_cons_zero, List.set_cons_succ]
            refine wpAnyH_done (by kernel_rfl) ?_ _
            refine NoPanic.normal ?_
            clear hHeld
            have HF9 := Lib.hid (show T = (L.drop (i + 1)).foldl rStep _ from by rw [HT1.out, rs_GDS Ht.out])
            have HM9 := Lib.hid HS.out.rm
            clear HS HN HCo HNs HT1 q0 q1
            go_wp2_with fail
            go_roundw
            case rel => exact ⟨i + 1, _, _, by go_num, by omega, HM9, HF9⟩
            case measure => simp [intOf]; omega
          · have z3 : (s.tag == [71, 68, 83]) = false := tag_ne h3
            by_cases h4 : s.tag = tLST
            · have z4 : (s.tag == [76, 83, 84]) = true := tag_eq h4
              have Ht := Lib.hid h4
              clear h1 h2 h3 h4
              go_wp2_with fail
              refine (HNs.out 0 _ HS.out.rm.below).mono ?_
              rintro e wA ⟨u, rfl, hu, hbA⟩
              obtain ⟨uo, uc, hue, _⟩ := hu.form
              obtain ⟨nl, hnl⟩ : ∃ k, ((atF s 0).map numL).length = k := ⟨_, rfl⟩
              rw [hnl] at hue
              subst hue
              clear hnl
              have HS2 := Lib.hid (HS.out.keep hbA)
              have hu2 := NumsIn.keep (q := fun b => w.heap.size + 2 ≤ b ∧ b < wA.heap.size) hu (fun b hb => ⟨⟨by have := (Array.getElem?_eq_some_iff.1 HS.out.rm.box).1; omega, hb.2⟩, rfl⟩)
              have c11 := HS2.out.rm.cells.c11
              have f0 := HS2.out.rm.free 11
              have HS3 := Lib.hid (HS2.out.set 11 (.slice uo nl uc) (M1 := { M with list := (atF s 0).map numL }) rfl hu2)
              clear hbA hu hu2 HS q0 q1
              go_wp2_with fail
              have HS := HS3
              clear HS2 HS3 c11 f0
              have q0 : True := trivial
              have q1 : True := trivial
              have HF9 := Lib.hid (show T = (L.drop (i + 1)).foldl rStep _ from by rw [HT1.out, rs_LST Ht.out])
              have HM9 := Lib.hid HS.out.rm
              clear HS HN HCo HNs HT1 q0 q1
              go_wp2_with fail
              go_roundw
              case rel => exact ⟨i + 1, _, _, by go_num, by omega, HM9, HF9⟩
              case measure => simp [intOf]; omega
            · have z4 : (s.tag == [76, 83, 84]) = false := tag_ne h4
              by_cases h5 : s.tag = tTXT
              · have z5 : (s.tag == [84, 88, 84]) = true := tag_eq h5
                have Ht := Lib.hid h5
                clear h1 h2 h3 h4 h5
                go_wp2_with fail
                refine (HCo.out 0 _ HS.out.rm.below).mono ?_
                rintro e wA ⟨rfl, hbA⟩
                have HS2 := Lib.hid (HS.out.keep hbA)
                have c12 := HS2.out.rm.cells.c12
                have f0 := HS2.out.rm.free 12
                have HS3 := Lib.hid (HS2.out.put 12 (.string ⟨(wordL (atF s 0)).toArray⟩) (M1 := { M with text := wordL (atF s 0) }) rfl rfl)
                clear hbA HS q0 q1
                go_wp2_with fail
                have HS := HS3
                clear HS2 HS3 c12 f0
                have q0 : True := trivial
                have q1 : True := trivial
                have HF9 := Lib.hid (show T = (L.drop (i + 1)).foldl rStep _ from by rw [HT1.out, rs_TXT Ht.out])
                have HM9 := Lib.hid HS.out.rm
                clear HS HN HCo HNs HT1 q0 q1
                go_wp2_with fail
                go_roundw
                case rel => exact ⟨i + 1, _, _, by go_num, by omega, HM9, HF9⟩
                case measure => simp [intOf]; omega
              · have z5 : (s.tag == [84, 88, 84]) = false := tag_ne h5
                have Ht := Lib.hid (rs_none (M := M) h1 h2 h3 h4 h5)
                clear h1 h2 h3 h4 h5
                have HF9 := Lib.hid (show T = (L.drop (i + 1)).foldl rStep M from by rw [HT1.out, Ht.out])
                have HM9 := Lib.hid HS.out.rm
                clear HS HN HCo HNs HT1
                go_wp2_with fail
                go_roundw
                case rel => exact ⟨i + 1, _, _, by go_num, by omega, HM9, HF9⟩
                case measure => simp [intOf]; omega
    · obtain rfl : i = L.length := by omega
      have d1 : decide ((L.length : Int) < (L.length : Int)) = false := decide_eq_false (by omega)
      have hT := HT.out
      rw [List.drop_length] at hT
      replace hT : T = M := hT
      subst hT
      obtain ⟨vo, vc, hvl, _⟩ := HA0.out.nums.form
      obtain ⟨c0, c1, c2, c3, c4, c5, c6, c7, c8, c9, c10, c11, c12⟩ := HA0.out.cells
      obtain ⟨n0, n1, n2, n3, n4, n5, n6, n7, n8, n9, n10, n11, n12⟩ := NoAt.of HA0.out.res
      have fr := fun j => NoAt.free HA0.out.res j
      obtain ⟨ln, hln⟩ : ∃ k, T.list.length = k := ⟨_, rfl⟩
      rw [hln] at hvl
      subst hvl
      obtain ⟨W9, hW9, hbox, hk, hbw⟩ := msg_stored T (.slice vo ln vc) HA0.out.res
      have HW9 := Lib.hid hW9
      have Hbox := Lib.hid hbox
      have hfin : Hid (NumsIn (NewB w W9) W9 (.slice vo ln vc) T.list) := Lib.hid (HA0.out.nums.keep fun b hb => ⟨⟨by omega, Nat.lt_of_lt_of_le hb.2 (hbw 0 (Nat.zero_le _)).size⟩, hk b (by omega)⟩)
      have hbel : Hid (Below w.heap.size w W9) := Lib.hid (HA0.out.below.trans (hbw _ (Nat.le_refl _)))
      clear HC HF HLw hW9 hbox hk hbw HT HA0
      go_wp2_with fail
      rw [← HW9.out]
      obtain ⟨d0, d1, d2, d3, d4, d5, d6, d7, d8, d9, d10, d11, d12⟩ := MsgAt.of Hbox.out
      unfold msgV strV
      have h1 := hfin.out
      have h2 := hbel.out
      clear c0 c1 c2 c3 c4 c5 c6 c7 c8 c9 c10 c11 c12 n0 n1 n2 n3 n4 n5 n6 n7 n8 n9 n10 n11 n12 fr
      simp [bodyPost, results, Tryd.results65, go_sem, d0, d1, d2, d3, d4, d5, d6, d7, d8, d9, d10, d11, d12]
      first | exact ⟨h1, h2⟩ | exact ⟨_, rfl, h1, h2⟩
end Go.Proofs.YtepkihoakagidaaDoor
