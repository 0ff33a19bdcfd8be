/- The walk through MessageValidateField. Condition: the message's and the list's cells are known. -/
import Derived.Test.YtepkihoakagidaaDoorG5
import Derived.Test.YtepkihoakagidaaDoorG1
import Derived.Deep.DeepCutAuto
import Derived.Deep.CutBlock
import Derived.Deep.RegionHeld3
namespace Go.Proofs.YtepkihoakagidaaDoor
open Go.RowKit

def lensM (m : Msg) : Prop := m.code.length ≤ maxLen ∧ m.ctry.length ≤ maxLen ∧ m.text.length ≤ maxLen
/-- Two messages in boxes; their lists lie elsewhere. -/
structure TwoAt (w wx : World) (B : Nat) (M R : Msg) (vl vr : Value) : Prop where
  boxA : wx.heap[w.heap.size]? = some (.cells (msgCells R vr) 24 (0, 0))
  boxB : wx.heap[B]? = some (.cells (msgCells M vl) 24 (0, 0))
  numM : NumsIn (fun b => b ≠ B ∧ b < wx.heap.size) wx vl M.list
  numR : NumsIn (fun b => b ≠ B ∧ b < wx.heap.size) wx vr R.list
  lenM : lensM M
  lenR : lensM R
  below : Below w.heap.size w wx
  lo : w.heap.size < B
theorem TwoAt.put {w wx : World} {B : Nat} {M R M1 : Msg} {vl vr vl1 : Value} (h : TwoAt w wx B M R vl vr) (j : Nat) (v : Value) (hc : (msgCells M vl).setIfInBounds j v = msgCells M1 vl1) (hn : NumsIn (fun b => b ≠ B ∧ b < wx.heap.size) wx vl1 M1.list) (hl : lensM M1) :
    BoxM (wx.setCell ⟨B, j, none⟩ v) B M1 vl1 ∧ Below w.heap.size w (wx.setCell ⟨B, j, none⟩ v) := by
  have hb : Below 0 wx (wx.setCell ⟨B, j, none⟩ v) := (Below.refl 0 wx).setCell (Nat.zero_le B) v
  have hx := set_box h.boxB j v
  rw [hc] at hx
  refine ⟨⟨hx, ⟨⟨vl1, rfl, hn.keep fun b hb1 => ⟨Nat.lt_of_lt_of_le hb1.2 hb.size, heap_setCell_other wx ⟨B, j, none⟩ b v hb1.1⟩⟩, hl.1, hl.2.1, hl.2.2⟩⟩, h.below.setCell (Nat.le_of_lt h.lo) v⟩
theorem TwoAt.cells {w wx : World} {B : Nat} {M R : Msg} {vl vr : Value} (h : TwoAt w wx B M R vl vr) : MsgAt wx w.heap.size R vr ∧ MsgAt wx B M vl := ⟨MsgAt.of h.boxA, MsgAt.of h.boxB⟩
theorem TwoAt.free {w wx : World} {B : Nat} {M R : Msg} {vl vr : Value} (h : TwoAt w wx B M R vl vr) (j : Nat) : wx.frozen? ⟨B, j, none⟩ = false := by
  simp [World.frozen?, h.boxB]
theorem nums_on {D : Nat → Prop} {wx w1 : World} {v : Value} {l : List Int} (h : NumsIn (fun b => D b ∧ b < wx.heap.size) wx v l) (hb : Below wx.heap.size wx w1) : NumsIn (fun b => D b ∧ b < w1.heap.size) w1 v l :=
  h.keep fun _ h1 => ⟨⟨h1.1, Nat.lt_of_lt_of_le h1.2 hb.size⟩, hb.block _ h1.2⟩
theorem nums_low {n : Nat} {wx w1 : World} {v : Value} {l : List Int} (h : NumsIn (fun b => b < n) wx v l) (hk : ∀ b, b < n → w1.heap[b]? = wx.heap[b]?) : NumsIn (fun b => b < n) w1 v l :=
  h.keep fun b h1 => ⟨h1, hk b h1⟩
theorem lens_ok {M : Msg} {p : Nat → Prop} {w : World} {v : Value} (h : MsgIn p w v M) : lensM M := ⟨h.code, h.ctry, h.text⟩

set_option maxRecDepth 100000 in
set_option maxHeartbeats 12800000 in
theorem messageValidateField_walk (m : Msg) (v : Value) (v1 : Value) (n1 : Nat) (f1 : Nat → Int) (q : Int) (w : World) (hL : MLib w) (h : MsgIn (Has_ w) w v m) (h1 : ListAt w .i64 v1 n1 f1) :
    Calls Tryd.prog 4 #[v1, v, .int .i64 q] w fun e w' => e = .returned (.bool true) ∧ Below w.heap.size w w' := by
  have HM := Lib.hid (fun w1 h => madeMessage_new v1 n1 f1 w1 h)
  have HS := Lib.hid (fun p m v w hp h => small_any p m v w hp h)
  have HV := Lib.hid (fun m v w h => msgValidate_any m v w h)
  have HR := Lib.hid (fun m v w h => refMessage_any m v w h)
  have HE := Lib.hid (fun m v w1 h (hb : Below w.heap.size w w1) => msgEncode_any m v w1 h (hL.keep hb))
  have HG := Lib.hid (fun m v w1 h (hb : Below w.heap.size w w1) => msgSegments_any m v w1 h (hL.keep hb))
  have HA := Lib.hid (fun w1 (hb : Below w.heap.size w w1) => awake7_any w1 (hL.keep hb))
  have HW := Lib.hid (fun W => madeWithin_wide q 13 (by decide) (by decide) W)
  have H1 := Lib.hid h1
  have HH := Lib.hid (fun W (hb : Below w.heap.size w W) => (show MsgIn (fun b => b < w.heap.size) W v m from ⟨(by obtain ⟨vl, e, hn⟩ := h.val; exact ⟨vl, e, hn.keep fun b hb1 => ⟨hb1, hb.block b hb1⟩⟩), h.code, h.ctry, h.text⟩))
  have hp : ∀ W : World, Below w.heap.size w W → ∀ b, b < w.heap.size → Has_ W b := fun W hb b h0 => Nat.lt_of_lt_of_le h0 hb.size
  replace hp := Lib.hid hp
  obtain ⟨vr, rfl, hn⟩ := h.val
  have hI := h
  clear h1 hL
  obtain ⟨lo, lc, rfl, _, _⟩ := hn.form
  obtain ⟨nn, hnn⟩ : ∃ k, m.list.length = k := ⟨_, rfl⟩
  rw [hnn] at hI HH
  rw [hnn]
  have HX := Lib.hid (BoxM.new hI).box
  have HL := Lib.hid ((Below.refl w.heap.size w).alloc (Nat.le_refl _) (.cells (msgCells m (.slice lo nn lc)) 24))
  have HZ := Lib.hid (show w.heap.size < (w.alloc (.cells (msgCells m (.slice lo nn lc)) 24)).heap.size from by simp)
  clear hn h hI hnn
  unfold msgCells strV at HX HL HZ
  unfold msgV strV at *
  go_enter Tryd.func4, Tryd.ntmps4
  go_upto_region 1 with fail
  generalize w.alloc (.cells #[.int .i64 m.kind, .int .i64 m.frm, .int .i64 m.to_, .int .i64 m.num, .int .i64 m.day, .int .i64 m.lot, .int .i64 m.other, .string ⟨m.code.toArray⟩, .string ⟨m.ctry.toArray⟩, .int .i64 m.qty, .int .i64 m.amt, .slice lo nn lc, .string ⟨m.text.toArray⟩] 24) = W1 at *
  go_cut [4, 7] (fun s4 s7 wx => s4 = .pointer (some ⟨w.heap.size, 0, none⟩) ∧ ∃ (B : Nat) (M R : Msg) (vl vr : Value), s7 = .pointer (some ⟨B, 0, none⟩) ∧ Hid (TwoAt w wx B M R vl vr))
  case first =>
    refine wp_region_noPanic ?_
    refine wp_region_held_drew (S := fun _ => True) (by kernel_rfl) trivial (fun hHeld => ?_)
    have hbA : Below W1.heap.size W1 W1.drew := (Below.refl _ _).drew
    generalize W1.drew = wA at *
    try replace HU := Lib.hid (nums_low HU.out fun b hb => hbA.block _ (Nat.lt_trans hb HZ.out))
    replace HX := Lib.hid ((hbA.block _ HZ.out).trans HX.out)
    try replace HN := Lib.hid (nums_on HN.out hbA)
    try replace HB := Lib.hid ((hbA.block _ HBl.out).trans HB.out)
    try replace HBl := Lib.hid (Nat.lt_of_lt_of_le HBl.out hbA.size)
    replace HZ := Lib.hid (Nat.lt_of_lt_of_le HZ.out hbA.size)
    replace HL := Lib.hid (msg_next HL.out hbA)
    clear hbA
    generalize wA = W1 at *
    refine wpAnyH_take (i := 0) (v := ?_) rfl (by kernel_rfl) (by kernel_rfl) (by kernel_rfl) (fun _ _ _ h => h) (Or.inl ⟨by rfl, ?_⟩) (by assumption) ?_
    rotate_left
    · intro wS hSw
      go_simp <;> with_reducible rfl
    try simp only [Act.put, List.getElem_toArray, List.getElem_cons_zero, List.setIfInBounds_toArray, List.set_cons_zero, List.set_cons_succ]
    refine wpAnyH_ready (rs := [1, 2, 4]) (by kernel_rfl) (by simp) ?_
    refine AllReadyH.cons rfl (fun K hK => ?_) (AllReadyH.cons rfl (fun K hK => ?_) (AllReadyH.cons rfl (fun K hK => ?_) AllReadyH.nil))
    · go_simp
      try have HBs := Lib.hid HBl.out
      refine (HM.out _ (listAt_later H1.out HL.out)).mono ?_
      rintro e wA ⟨M, vl, rfl, hok, hn, hbA⟩
      try replace HU := Lib.hid (nums_low HU.out fun b hb => hbA.block _ (Nat.lt_trans hb HZ.out))
      replace HX := Lib.hid ((hbA.block _ HZ.out).trans HX.out)
      try replace HN := Lib.hid (nums_on HN.out hbA)
      try replace HB := Lib.hid ((hbA.block _ HBl.out).trans HB.out)
      try replace HBl := Lib.hid (Nat.lt_of_lt_of_le HBl.out hbA.size)
      obtain ⟨mo, mc, rfl, _, _⟩ := hn.form
      obtain ⟨mn, hmn⟩ : ∃ k, M.list.length = k := ⟨_, rfl⟩
      rw [hmn] at hn
      rw [hmn]
      have HO := Lib.hid (lens_ok (made_in (w := wA) hok (hn.keep fun b hb => ⟨hb.2, rfl⟩)))
      first
        | have HN := Lib.hid (NumsIn.keep (q := fun b => (b ≠ w.heap.size ∧ b ≠ B) ∧ b < wA.heap.size) hn fun b hb => ⟨⟨⟨by have := HZ.out; have := hb.1; omega, by have := HBs.out; have := hb.1; omega⟩, hb.2⟩, rfl⟩)
        | have HN := Lib.hid (NumsIn.keep (q := fun b => (b ≠ w.heap.size ∧ True) ∧ b < wA.heap.size) hn fun b hb => ⟨⟨⟨by have := HZ.out; have := hb.1; omega, trivial⟩, hb.2⟩, rfl⟩)
      clear hmn hn hok
      try clear HBs
      replace HZ := Lib.hid (Nat.lt_of_lt_of_le HZ.out hbA.size)
      replace HL := Lib.hid (msg_next HL.out hbA)
      clear hbA
      generalize wA = W1 at *
      try unfold msgV strV
      refine hK.out _ _ (trivial) (fun hHeld => ?_)
      clear hK K
      try simp only [Act.put, List.getElem_toArray, List.getElem_cons_succ, List.getElem_cons_zero, List.setIfInBounds_toArray, List.set_cons_zero, List.set_cons_succ]
      refine wpAnyH_ready (rs := [2, 4]) (by kernel_rfl) (by simp) ?_
      refine AllReadyH.cons rfl (fun K hK => ?_) (AllReadyH.cons rfl (fun K hK => ?_) AllReadyH.nil)
      · obtain ⟨c0, c1, c2, c3, c4, c5, c6, c7, c8, c9, c10, c11, c12⟩ := MsgAt.of HX.out
        try unfold strV at c7 c8 c12
        go_simp
        clear c0 c1 c2 c3 c4 c5 c6 c7 c8 c9 c10 c11 c12
        refine hK.out _ _ (trivial) (fun hHeld => ?_)
        clear hK K
        try simp only [Act.put, List.getElem_toArray, List.getElem_cons_succ, List.getElem_cons_zero, List.setIfInBounds_toArray, List.set_cons_zero, List.set_cons_succ]
        refine wpAnyH_ready (rs := [3, 4]) (by kernel_rfl) (by simp) ?_
        refine AllReadyH.cons rfl (fun K hK => ?_) (AllReadyH.cons rfl (fun K hK => ?_) AllReadyH.nil)
        · go_simp
          refine (HS.out _ m _ _ (hp.out _ HL.out) (HH.out _ HL.out)).mono ?_
          rintro e wA ⟨u, rfl, hu, hbA⟩
          try replace HU := Lib.hid (nums_low HU.out fun b hb => hbA.block _ (Nat.lt_trans hb HZ.out))
          replace HX := Lib.hid ((hbA.block _ HZ.out).trans HX.out)
          try replace HN := Lib.hid (nums_on HN.out hbA)
          try replace HB := Lib.hid ((hbA.block _ HBl.out).trans HB.out)
          try replace HBl := Lib.hid (Nat.lt_of_lt_of_le HBl.out hbA.size)
          obtain ⟨vs, rfl, hvs⟩ := hu.val
          have HP := Lib.hid (lens_ok hu)
          clear hu HS HH hp
          generalize smallM m = R at *
          obtain ⟨so, sc, rfl, _, _⟩ := hvs.form
          obtain ⟨sn, hsn⟩ : ∃ k, R.list.length = k := ⟨_, rfl⟩
          rw [hsn] at hvs
          rw [hsn]
          have HU := Lib.hid hvs
          clear hsn hvs
          replace HZ := Lib.hid (Nat.lt_of_lt_of_le HZ.out hbA.size)
          replace HL := Lib.hid (msg_next HL.out hbA)
          clear hbA
          generalize wA = W1 at *
          try unfold msgV strV
          refine hK.out _ _ (trivial) (fun hHeld => ?_)
          clear hK K
          try simp only [Act.put, List.getElem_toArray, List.getElem_cons_succ, List.getElem_cons_zero, List.setIfInBounds_toArray, List.set_cons_zero, List.set_cons_succ]
          refine wpAnyH_ready (rs := [4]) (by kernel_rfl) (by simp) ?_
          refine AllReadyH.cons rfl (fun K hK => ?_) AllReadyH.nil
          go_simp
          have hbA : Below W1.heap.size W1 (W1.alloc (.cells #[.int .i64 0, .int .i64 0, .int .i64 0, .int .i64 0, .int .i64 0, .int .i64 0, .int .i64 0, .string ⟨#[]⟩, .string ⟨#[]⟩, .int .i64 0, .int .i64 0, .slice none 0 0, .string ⟨#[]⟩] 24)) := (Below.refl _ _).alloc (Nat.le_refl _) _
          try replace HN := Lib.hid (NumsIn.keep (q := fun b => (b ≠ w.heap.size ∧ b ≠ W1.heap.size) ∧ b < W1.heap.size) HN.out fun b hb => ⟨⟨⟨hb.1.1, Nat.ne_of_lt hb.2⟩, hb.2⟩, rfl⟩)
          try replace HU := Lib.hid (nums_low HU.out fun b hb => hbA.block _ (Nat.lt_trans hb HZ.out))
          replace HX := Lib.hid ((hbA.block _ HZ.out).trans HX.out)
          try replace HN := Lib.hid (nums_on HN.out hbA)
          try replace HB := Lib.hid ((hbA.block _ HBl.out).trans HB.out)
          try replace HBl := Lib.hid (Nat.lt_of_lt_of_le HBl.out hbA.size)
          have HB := Lib.hid (show (W1.alloc (.cells #[.int .i64 0, .int .i64 0, .int .i64 0, .int .i64 0, .int .i64 0, .int .i64 0, .int .i64 0, .string ⟨#[]⟩, .string ⟨#[]⟩, .int .i64 0, .int .i64 0, .slice none 0 0, .string ⟨#[]⟩] 24)).heap[W1.heap.size]? = some (.cells noCells 24 (0, 0)) from by show (W1.heap.push _)[W1.heap.size]? = some _; simp [noCells])
          have HBl := Lib.hid (show W1.heap.size < (W1.alloc (.cells #[.int .i64 0, .int .i64 0, .int .i64 0, .int .i64 0, .int .i64 0, .int .i64 0, .int .i64 0, .string ⟨#[]⟩, .string ⟨#[]⟩, .int .i64 0, .int .i64 0, .slice none 0 0, .string ⟨#[]⟩] 24)).heap.size from by simp)
          have HBo := Lib.hid (show w.heap.size < W1.heap.size from HZ.out)
          generalize W1.alloc (.cells #[.int .i64 0, .int .i64 0, .int .i64 0, .int .i64 0, .int .i64 0, .int .i64 0, .int .i64 0, .string ⟨#[]⟩, .string ⟨#[]⟩, .int .i64 0, .int .i64 0, .slice none 0 0, .string ⟨#[]⟩] 24) = wA at *
          replace HZ := Lib.hid (Nat.lt_of_lt_of_le HZ.out hbA.size)
          replace HL := Lib.hid (msg_next HL.out hbA)
          clear hbA
          generalize W1.heap.size = B at *
          generalize wA = W1 at *
          refine hK.out _ _ (trivial) (fun hHeld => ?_)
          clear hK K
          try simp only [Act.put, List.getElem_toArray, List.getElem_cons_succ, List.getElem_cons_zero, List.setIfInBounds_toArray, List.set_cons_zero, List.set_cons_succ]
          refine wpAnyH_ready (rs := [5]) (by kernel_rfl) (by simp) ?_
          refine AllReadyH.cons rfl (fun K hK => ?_) AllReadyH.nil
          obtain ⟨n0, n1_, n2, n3, n4, n5, n6, n7, n8, n9, n10, n11, n12⟩ := NoAt.of HB.out
          have fr := NoAt.free HB.out
          go_simp
          obtain ⟨W9, hW9, hbox, hk, hbw⟩ := msg_stored M (.slice mo mn mc) HB.out
          rw [← hW9]
          have h9 := (hbw 0 (Nat.zero_le _)).size
          replace HU := Lib.hid (nums_low HU.out fun b hb => hk b (by have := HBo.out; omega))
          replace HX := Lib.hid ((hk _ (by have := HBo.out; omega)).trans HX.out)
          replace HN := Lib.hid (NumsIn.keep (q := fun b => (b ≠ w.heap.size ∧ b ≠ B) ∧ b < W9.heap.size) HN.out fun b hb => ⟨⟨hb.1, Nat.lt_of_lt_of_le hb.2 h9⟩, hk b hb.1.2⟩)
          replace HB := Lib.hid hbox
          replace HBl := Lib.hid (Nat.lt_of_lt_of_le HBl.out h9)
          replace HL := Lib.hid (HL.out.trans (hbw _ (Nat.le_of_lt HBo.out)))
          replace HZ := Lib.hid (Nat.lt_of_lt_of_le HZ.out h9)
          clear hW9 hbox hk hbw h9 n0 n1_ n2 n3 n4 n5 n6 n7 n8 n9 n10 n11 n12 fr
          generalize W9 = W1 at *
          refine hK.out _ _ (trivial) (fun hHeld => ?_)
          clear hK K
          try simp only [Act.put, List.getElem_toArray, List.getElem_cons_succ, List.getElem_cons_zero, List.setIfInBounds_toArray, List.set_cons_zero, List.set_cons_succ]
          refine wpAnyH_ready (rs := [6]) (by kernel_rfl) (by simp) ?_
          refine AllReadyH.cons rfl (fun K hK => ?_) AllReadyH.nil
          obtain ⟨c0, c1, c2, c3, c4, c5, c6, c7, c8, c9, c10, c11, c12⟩ := MsgAt.of HX.out
          try unfold strV at c7 c8 c12
          have fr : ∀ j : Nat, W1.frozen? ⟨w.heap.size, j, none⟩ = false := fun j => by simp [World.frozen?, HX.out]
          have g0 := fr 0
          have g1 := fr 1
          have g2 := fr 2
          have g3 := fr 3
          have g4 := fr 4
          have g5 := fr 5
          have g6 := fr 6
          have g7 := fr 7
          have g8 := fr 8
          have g9 := fr 9
          have g10 := fr 10
          have g11 := fr 11
          have g12 := fr 12
          clear fr
          go_simp
          obtain ⟨W9, hW9, hbox, hk, hbw⟩ := msg_over m (.slice lo nn lc) R (.slice so sn sc) HX.out
          rw [← hW9]
          have h9 := (hbw 0 (Nat.zero_le _)).size
          have HT := Lib.hid (show TwoAt w W9 B M R (.slice mo mn mc) (.slice so sn sc) from ⟨hbox, (hk _ (by have := HBo.out; omega)).trans HB.out, HN.out.keep fun b hb => ⟨⟨hb.1.2, Nat.lt_of_lt_of_le hb.2 h9⟩, hk b hb.1.1⟩, HU.out.keep fun b hb => (show (b ≠ B ∧ b < W9.heap.size) ∧ W9.heap[b]? = W1.heap[b]? from by have hb1 : b < w.heap.size := hb; have := HBo.out; have := HZ.out; exact ⟨⟨by omega, by omega⟩, hk b (by omega)⟩), HO.out, HP.out, HL.out.trans (hbw _ (Nat.le_refl _)), HBo.out⟩)
          clear hW9 hbox hk hbw h9 c0 c1 c2 c3 c4 c5 c6 c7 c8 c9 c10 c11 c12 g0 g1 g2 g3 g4 g5 g6 g7 g8 g9 g10 g11 g12 HU HX HN HB HBl HL HZ HBo HO HP
          generalize W9 = W1 at *
          refine hK.out _ _ (trivial) (fun hHeld => ?_)
          clear hK K
          try simp only [Act.put, List.getElem_toArray, List.getElem_cons_succ, List.getElem_cons_zero, List.setIfInBounds_toArray, List.set_cons_zero, List.set_cons_succ]
          refine wpAnyH_done (by kernel_rfl) ?_ _
          refine NoPanic.normal ?_
          clear hHeld
          go_wp2_with fail
          go_meet
          case rel => exact ⟨rfl, B, M, R, _, _, rfl, HT⟩
        · go_simp
          have hbA : Below W1.heap.size W1 (W1.alloc (.cells #[.int .i64 0, .int .i64 0, .int .i64 0, .int .i64 0, .int .i64 0, .int .i64 0, .int .i64 0, .string ⟨#[]⟩, .string ⟨#[]⟩, .int .i64 0, .int .i64 0, .slice none 0 0, .string ⟨#[]⟩] 24)) := (Below.refl _ _).alloc (Nat.le_refl _) _
          try replace HN := Lib.hid (NumsIn.keep (q := fun b => (b ≠ w.heap.size ∧ b ≠ W1.heap.size) ∧ b < W1.heap.size) HN.out fun b hb => ⟨⟨⟨hb.1.1, Nat.ne_of_lt hb.2⟩, hb.2⟩, rfl⟩)
          try replace HU := Lib.hid (nums_low HU.out fun b hb => hbA.block _ (Nat.lt_trans hb HZ.out))
          replace HX := Lib.hid ((hbA.block _ HZ.out).trans HX.out)
          try replace HN := Lib.hid (nums_on HN.out hbA)
          try replace HB := Lib.hid ((hbA.block _ HBl.out).trans HB.out)
          try replace HBl := Lib.hid (Nat.lt_of_lt_of_le HBl.out hbA.size)
          have HB := Lib.hid (show (W1.alloc (.cells #[.int .i64 0, .int .i64 0, .int .i64 0, .int .i64 0, .int .i64 0, .int .i64 0, .int .i64 0, .string ⟨#[]⟩, .string ⟨#[]⟩, .int .i64 0, .int .i64 0, .slice none 0 0, .string ⟨#[]⟩] 24)).heap[W1.heap.size]? = some (.cells noCells 24 (0, 0)) from by show (W1.heap.push _)[W1.heap.size]? = some _; simp [noCells])
          have HBl := Lib.hid (show W1.heap.size < (W1.alloc (.cells #[.int .i64 0, .int .i64 0, .int .i64 0, .int .i64 0, .int .i64 0, .int .i64 0, .int .i64 0, .string ⟨#[]⟩, .string ⟨#[]⟩, .int .i64 0, .int .i64 0, .slice none 0 0, .string ⟨#[]⟩] 24)).heap.size from by simp)
          have HBo := Lib.hid (show w.heap.size < W1.heap.size from HZ.out)
          generalize W1.alloc (.cells #[.int .i64 0, .int .i64 0, .int .i64 0, .int .i64 0, .int .i64 0, .int .i64 0, .int .i64 0, .string ⟨#[]⟩, .string ⟨#[]⟩, .int .i64 0, .int .i64 0, .slice none 0 0, .string ⟨#[]⟩] 24) = wA at *
          replace HZ := Lib.hid (Nat.lt_of_lt_of_le HZ.out hbA.size)
          replace HL := Lib.hid (msg_next HL.out hbA)
          clear hbA
          generalize W1.heap.size = B at *
          generalize wA = W1 at *
          refine hK.out _ _ (trivial) (fun hHeld => ?_)
          clear hK K
          try simp only [Act.put, List.getElem_toArray, List.getElem_cons_succ, List.getElem_cons_zero, List.setIfInBounds_toArray, List.set_cons_zero, List.set_cons_succ]
          refine wpAnyH_ready (rs := [3]) (by kernel_rfl) (by simp) ?_
          refine AllReadyH.cons rfl (fun K hK => ?_) AllReadyH.nil
          go_simp
          refine (HS.out _ m _ _ (hp.out _ HL.out) (HH.out _ HL.out)).mono ?_
          rintro e wA ⟨u, rfl, hu, hbA⟩
          try replace HU := Lib.hid (nums_low HU.out fun b hb => hbA.block _ (Nat.lt_trans hb HZ.out))
          replace HX := Lib.hid ((hbA.block _ HZ.out).trans HX.out)
          try replace HN := Lib.hid (nums_on HN.out hbA)
          try replace HB := Lib.hid ((hbA.block _ HBl.out).trans HB.out)
          try replace HBl := Lib.hid (Nat.lt_of_lt_of_le HBl.out hbA.size)
          obtain ⟨vs, rfl, hvs⟩ := hu.val
          have HP := Lib.hid (lens_ok hu)
          clear hu HS HH hp
          generalize smallM m = R at *
          obtain ⟨so, sc, rfl, _, _⟩ := hvs.form
          obtain ⟨sn, hsn⟩ : ∃ k, R.list.length = k := ⟨_, rfl⟩
          rw [hsn] at hvs
          rw [hsn]
          have HU := Lib.hid hvs
          clear hsn hvs
          replace HZ := Lib.hid (Nat.lt_of_lt_of_le HZ.out hbA.size)
          replace HL := Lib.hid (msg_next HL.out hbA)
          clear hbA
          generalize wA = W1 at *
          try unfold msgV strV
          refine hK.out _ _ (trivial) (fun hHeld => ?_)
          clear hK K
          try simp only [Act.put, List.getElem_toArray, List.getElem_cons_succ, List.getElem_cons_zero, List.setIfInBounds_toArray, List.set_cons_zero, List.set_cons_succ]
          refine wpAnyH_ready (rs := [5]) (by kernel_rfl) (by simp) ?_
          refine AllReadyH.cons rfl (fun K hK => ?_) AllReadyH.nil
          obtain ⟨n0, n1_, n2, n3, n4, n5, n6, n7, n8, n9, n10, n11, n12⟩ := NoAt.of HB.out
          have fr := NoAt.free HB.out
          go_simp
          obtain ⟨W9, hW9, hbox, hk, hbw⟩ := msg_stored M (.slice mo mn mc) HB.out
          rw [← hW9]
          have h9 := (hbw 0 (Nat.zero_le _)).size
          replace HU := Lib.hid (nums_low HU.out fun b hb => hk b (by have := HBo.out; omega))
          replace HX := Lib.hid ((hk _ (by have := HBo.out; omega)).trans HX.out)
          replace HN := Lib.hid (NumsIn.keep (q := fun b => (b ≠ w.heap.size ∧ b ≠ B) ∧ b < W9.heap.size) HN.out fun b hb => ⟨⟨hb.1, Nat.lt_of_lt_of_le hb.2 h9⟩, hk b hb.1.2⟩)
          replace HB := Lib.hid hbox
          replace HBl := Lib.hid (Nat.lt_of_lt_of_le HBl.out h9)
          replace HL := Lib.hid (HL.out.trans (hbw _ (Nat.le_of_lt HBo.out)))
          replace HZ := Lib.hid (Nat.lt_of_lt_of_le HZ.out h9)
          clear hW9 hbox hk hbw h9 n0 n1_ n2 n3 n4 n5 n6 n7 n8 n9 n10 n11 n12 fr
          generalize W9 = W1 at *
          refine hK.out _ _ (trivial) (fun hHeld => ?_)
          clear hK K
          try simp only [Act.put, List.getElem_toArray, List.getElem_cons_succ, List.getElem_cons_zero, List.setIfInBounds_toArray, List.set_cons_zero, List.set_cons_succ]
          refine wpAnyH_ready (rs := [6]) (by kernel_rfl) (by simp) ?_
          refine AllReadyH.cons rfl (fun K hK => ?_) AllReadyH.nil
          obtain ⟨c0, c1, c2, c3, c4, c5, c6, c7, c8, c9, c10, c11, c12⟩ := MsgAt.of HX.out
          try unfold strV at c7 c8 c12
          have fr : ∀ j : Nat, W1.frozen? ⟨w.heap.size, j, none⟩ = false := fun j => by simp [World.frozen?, HX.out]
          have g0 := fr 0
          have g1 := fr 1
          have g2 := fr 2
          have g3 := fr 3
          have g4 := fr 4
          have g5 := fr 5
          have g6 := fr 6
          have g7 := fr 7
          have g8 := fr 8
          have g9 := fr 9
          have g10 := fr 10
          have g11 := fr 11
          have g12 := fr 12
          clear fr
          go_simp
          obtain ⟨W9, hW9, hbox, hk, hbw⟩ := msg_over m (.slice lo nn lc) R (.slice so sn sc) HX.out
          rw [← hW9]
          have h9 := (hbw 0 (Nat.zero_le _)).size
          have HT := Lib.hid (show TwoAt w W9 B M R (.slice mo mn mc) (.slice so sn sc) from ⟨hbox, (hk _ (by have := HBo.out; omega)).trans HB.out, HN.out.keep fun b hb => ⟨⟨hb.1.2, Nat.lt_of_lt_of_le hb.2 h9⟩, hk b hb.1.1⟩, HU.out.keep fun b hb => (show (b ≠ B ∧ b < W9.heap.size) ∧ W9.heap[b]? = W1.heap[b]? from by have hb1 : b < w.heap.size := hb; have := HBo.out; have := HZ.out; exact ⟨⟨by omega, by omega⟩, hk b (by omega)⟩), HO.out, HP.out, HL.out.trans (hbw _ (Nat.le_refl _)), HBo.out⟩)
          clear hW9 hbox hk hbw h9 c0 c1 c2 c3 c4 c5 c6 c7 c8 c9 c10 c11 c12 g0 g1 g2 g3 g4 g5 g6 g7 g8 g9 g10 g11 g12 HU HX HN HB HBl HL HZ HBo HO HP
          generalize W9 = W1 at *
          refine hK.out _ _ (trivial) (fun hHeld => ?_)
          clear hK K
          try simp only [Act.put, List.getElem_toArray, List.getElem_cons_succ, List.getElem_cons_zero, List.setIfInBounds_toArray, List.set_cons_zero, List.set_cons_succ]
          refine wpAnyH_done (by kernel_rfl) ?_ _
          refine NoPanic.normal ?_
          clear hHeld
          go_wp2_with fail
          go_meet
          case rel => exact ⟨rfl, B, M, R, _, _, rfl, HT⟩
      · go_simp
        have hbA : Below W1.heap.size W1 (W1.alloc (.cells #[.int .i64 0, .int .i64 0, .int .i64 0, .int .i64 0, .int .i64 0, .int .i64 0, .int .i64 0, .string ⟨#[]⟩, .string ⟨#[]⟩, .int .i64 0, .int .i64 0, .slice none 0 0, .string ⟨#[]⟩] 24)) := (Below.refl _ _).alloc (Nat.le_refl _) _
        try replace HN := Lib.hid (NumsIn.keep (q := fun b => (b ≠ w.heap.size ∧ b ≠ W1.heap.size) ∧ b < W1.heap.size) HN.out fun b hb => ⟨⟨⟨hb.1.1, Nat.ne_of_lt hb.2⟩, hb.2⟩, rfl⟩)
        try replace HU := Lib.hid (nums_low HU.out fun b hb => hbA.block _ (Nat.lt_trans hb HZ.out))
        replace HX := Lib.hid ((hbA.block _ HZ.out).trans HX.out)
        try replace HN := Lib.hid (nums_on HN.out hbA)
        try replace HB := Lib.hid ((hbA.block _ HBl.out).trans HB.out)
        try replace HBl := Lib.hid (Nat.lt_of_lt_of_le HBl.out hbA.size)
        have HB := Lib.hid (show (W1.alloc (.cells #[.int .i64 0, .int .i64 0, .int .i64 0, .int .i64 0, .int .i64 0, .int .i64 0, .int .i64 0, .string ⟨#[]⟩, .string ⟨#[]⟩, .int .i64 0, .int .i64 0, .slice none 0 0, .string ⟨#[]⟩] 24)).heap[W1.heap.size]? = some (.cells noCells 24 (0, 0)) from by show (W1.heap.push _)[W1.heap.size]? = some _; simp [noCells])
        have HBl := Lib.hid (show W1.heap.size < (W1.alloc (.cells #[.int .i64 0, .int .i64 0, .int .i64 0, .int .i64 0, .int .i64 0, .int .i64 0, .int .i64 0, .string ⟨#[]⟩, .string ⟨#[]⟩, .int .i64 0, .int .i64 0, .slice none 0 0, .string ⟨#[]⟩] 24)).heap.size from by simp)
        have HBo := Lib.hid (show w.heap.size < W1.heap.size from HZ.out)
        generalize W1.alloc (.cells #[.int .i64 0, .int .i64 0, .int .i64 0, .int .i64 0, .int .i64 0, .int .i64 0, .int .i64 0, .string ⟨#[]⟩, .string ⟨#[]⟩, .int .i64 0, .int .i64 0, .slice none 0 0, .string ⟨#[]⟩] 24) = wA at *
        replace HZ := Lib.hid (Nat.lt_of_lt_of_le HZ.out hbA.size)
        replace HL := Lib.hid (msg_next HL.out hbA)
        clear hbA
        generalize W1.heap.size = B at *
        generalize wA = W1 at *
        refine hK.out _ _ (trivial) (fun hHeld => ?_)
        clear hK K
        try simp only [Act.put, List.getElem_toArray, List.getElem_cons_succ, List.getElem_cons_zero, List.setIfInBounds_toArray, List.set_cons_zero, List.set_cons_succ]
        refine wpAnyH_ready (rs := [2]) (by kernel_rfl) (by simp) ?_
        refine AllReadyH.cons rfl (fun K hK => ?_) AllReadyH.nil
        obtain ⟨c0, c1, c2, c3, c4, c5, c6, c7, c8, c9, c10, c11, c12⟩ := MsgAt.of HX.out
        try unfold strV at c7 c8 c12
        go_simp
        clear c0 c1 c2 c3 c4 c5 c6 c7 c8 c9 c10 c11 c12
        refine hK.out _ _ (trivial) (fun hHeld => ?_)
        clear hK K
        try simp only [Act.put, List.getElem_toArray, List.getElem_cons_succ, List.getElem_cons_zero, List.setIfInBounds_toArray, List.set_cons_zero, List.set_cons_succ]
        refine wpAnyH_ready (rs := [3]) (by kernel_rfl) (by simp) ?_
        refine AllReadyH.cons rfl (fun K hK => ?_) AllReadyH.nil
        go_simp
        refine (HS.out _ m _ _ (hp.out _ HL.out) (HH.out _ HL.out)).mono ?_
        rintro e wA ⟨u, rfl, hu, hbA⟩
        try replace HU := Lib.hid (nums_low HU.out fun b hb => hbA.block _ (Nat.lt_trans hb HZ.out))
        replace HX := Lib.hid ((hbA.block _ HZ.out).trans HX.out)
        try replace HN := Lib.hid (nums_on HN.out hbA)
        try replace HB := Lib.hid ((hbA.block _ HBl.out).trans HB.out)
        try replace HBl := Lib.hid (Nat.lt_of_lt_of_le HBl.out hbA.size)
        obtain ⟨vs, rfl, hvs⟩ := hu.val
        have HP := Lib.hid (lens_ok hu)
        clear hu HS HH hp
        generalize smallM m = R at *
        obtain ⟨so, sc, rfl, _, _⟩ := hvs.form
        obtain ⟨sn, hsn⟩ : ∃ k, R.list.length = k := ⟨_, rfl⟩
        rw [hsn] at hvs
        rw [hsn]
        have HU := Lib.hid hvs
        clear hsn hvs
        replace HZ := Lib.hid (Nat.lt_of_lt_of_le HZ.out hbA.size)
        replace HL := Lib.hid (msg_next HL.out hbA)
        clear hbA
        generalize wA = W1 at *
        try unfold msgV strV
        refine hK.out _ _ (trivial) (fun hHeld => ?_)
        clear hK K
        try simp only [Act.put, List.getElem_toArray, List.getElem_cons_succ, List.getElem_cons_zero, List.setIfInBounds_toArray, List.set_cons_zero, List.set_cons_succ]
        refine wpAnyH_ready (rs := [5]) (by kernel_rfl) (by simp) ?_
        refine AllReadyH.cons rfl (fun K hK => ?_) AllReadyH.nil
        obtain ⟨n0, n1_, n2, n3, n4, n5, n6, n7, n8, n9, n10, n11, n12⟩ := NoAt.of HB.out
        have fr := NoAt.free HB.out
        go_simp
        obtain ⟨W9, hW9, hbox, hk, hbw⟩ := msg_stored M (.slice mo mn mc) HB.out
        rw [← hW9]
        have h9 := (hbw 0 (Nat.zero_le _)).size
        replace HU := Lib.hid (nums_low HU.out fun b hb => hk b (by have := HBo.out; omega))
        replace HX := Lib.hid ((hk _ (by have := HBo.out; omega)).trans HX.out)
        replace HN := Lib.hid (NumsIn.keep (q := fun b => (b ≠ w.heap.size ∧ b ≠ B) ∧ b < W9.heap.size) HN.out fun b hb => ⟨⟨hb.1, Nat.lt_of_lt_of_le hb.2 h9⟩, hk b hb.1.2⟩)
        replace HB := Lib.hid hbox
        replace HBl := Lib.hid (Nat.lt_of_lt_of_le HBl.out h9)
        replace HL := Lib.hid (HL.out.trans (hbw _ (Nat.le_of_lt HBo.out)))
        replace HZ := Lib.hid (Nat.lt_of_lt_of_le HZ.out h9)
        clear hW9 hbox hk hbw h9 n0 n1_ n2 n3 n4 n5 n6 n7 n8 n9 n10 n11 n12 fr
        generalize W9 = W1 at *
        refine hK.out _ _ (trivial) (fun hHeld => ?_)
        clear hK K
        try simp only [Act.put, List.getElem_toArray, List.getElem_cons_succ, List.getElem_cons_zero, List.setIfInBounds_toArray, List.set_cons_zero, List.set_cons_succ]
        refine wpAnyH_ready (rs := [6]) (by kernel_rfl) (by simp) ?_
        refine AllReadyH.cons rfl (fun K hK => ?_) AllReadyH.nil
        obtain ⟨c0, c1, c2, c3, c4, c5, c6, c7, c8, c9, c10, c11, c12⟩ := MsgAt.of HX.out
        try unfold strV at c7 c8 c12
        have fr : ∀ j : Nat, W1.frozen? ⟨w.heap.size, j, none⟩ = false := fun j => by simp [World.frozen?, HX.out]
        have g0 := fr 0
        have g1 := fr 1
        have g2 := fr 2
        have g3 := fr 3
        have g4 := fr 4
        have g5 := fr 5
        have g6 := fr 6
        have g7 := fr 7
        have g8 := fr 8
        have g9 := fr 9
        have g10 := fr 10
        have g11 := fr 11
        have g12 := fr 12
        clear fr
        go_simp
        obtain ⟨W9, hW9, hbox, hk, hbw⟩ := msg_over m (.slice lo nn lc) R (.slice so sn sc) HX.out
        rw [← hW9]
        have h9 := (hbw 0 (Nat.zero_le _)).size
        have HT := Lib.hid (show TwoAt w W9 B M R (.slice mo mn mc) (.slice so sn sc) from ⟨hbox, (hk _ (by have := HBo.out; omega)).trans HB.out, HN.out.keep fun b hb => ⟨⟨hb.1.2, Nat.lt_of_lt_of_le hb.2 h9⟩, hk b hb.1.1⟩, HU.out.keep fun b hb => (show (b ≠ B ∧ b < W9.heap.size) ∧ W9.heap[b]? = W1.heap[b]? from by have hb1 : b < w.heap.size := hb; have := HBo.out; have := HZ.out; exact ⟨⟨by omega, by omega⟩, hk b (by omega)⟩), HO.out, HP.out, HL.out.trans (hbw _ (Nat.le_refl _)), HBo.out⟩)
        clear hW9 hbox hk hbw h9 c0 c1 c2 c3 c4 c5 c6 c7 c8 c9 c10 c11 c12 g0 g1 g2 g3 g4 g5 g6 g7 g8 g9 g10 g11 g12 HU HX HN HB HBl HL HZ HBo HO HP
        generalize W9 = W1 at *
        refine hK.out _ _ (trivial) (fun hHeld => ?_)
        clear hK K
        try simp only [Act.put, List.getElem_toArray, List.getElem_cons_succ, List.getElem_cons_zero, List.setIfInBounds_toArray, List.set_cons_zero, List.set_cons_succ]
        refine wpAnyH_done (by kernel_rfl) ?_ _
        refine NoPanic.normal ?_
        clear hHeld
        go_wp2_with fail
        go_meet
        case rel => exact ⟨rfl, B, M, R, _, _, rfl, HT⟩
    · obtain ⟨c0, c1, c2, c3, c4, c5, c6, c7, c8, c9, c10, c11, c12⟩ := MsgAt.of HX.out
      try unfold strV at c7 c8 c12
      go_simp
      clear c0 c1 c2 c3 c4 c5 c6 c7 c8 c9 c10 c11 c12
      refine hK.out _ _ (trivial) (fun hHeld => ?_)
      clear hK K
      try simp only [Act.put, List.getElem_toArray, List.getElem_cons_succ, List.getElem_cons_zero, List.setIfInBounds_toArray, List.set_cons_zero, List.set_cons_succ]
      refine wpAnyH_ready (rs := [1, 4]) (by kernel_rfl) (by simp) ?_
      refine AllReadyH.cons rfl (fun K hK => ?_) (AllReadyH.cons rfl (fun K hK => ?_) AllReadyH.nil)
      · go_simp
        try have HBs := Lib.hid HBl.out
        refine (HM.out _ (listAt_later H1.out HL.out)).mono ?_
        rintro e wA ⟨M, vl, rfl, hok, hn, hbA⟩
        try replace HU := Lib.hid (nums_low HU.out fun b hb => hbA.block _ (Nat.lt_trans hb HZ.out))
        replace HX := Lib.hid ((hbA.block _ HZ.out).trans HX.out)
        try replace HN := Lib.hid (nums_on HN.out hbA)
        try replace HB := Lib.hid ((hbA.block _ HBl.out).trans HB.out)
        try replace HBl := Lib.hid (Nat.lt_of_lt_of_le HBl.out hbA.size)
        obtain ⟨mo, mc, rfl, _, _⟩ := hn.form
        obtain ⟨mn, hmn⟩ : ∃ k, M.list.length = k := ⟨_, rfl⟩
        rw [hmn] at hn
        rw [hmn]
        have HO := Lib.hid (lens_ok (made_in (w := wA) hok (hn.keep fun b hb => ⟨hb.2, rfl⟩)))
        first
          | have HN := Lib.hid (NumsIn.keep (q := fun b => (b ≠ w.heap.size ∧ b ≠ B) ∧ b < wA.heap.size) hn fun b hb => ⟨⟨⟨by have := HZ.out; have := hb.1; omega, by have := HBs.out; have := hb.1; omega⟩, hb.2⟩, rfl⟩)
          | have HN := Lib.hid (NumsIn.keep (q := fun b => (b ≠ w.heap.size ∧ True) ∧ b < wA.heap.size) hn fun b hb => ⟨⟨⟨by have := HZ.out; have := hb.1; omega, trivial⟩, hb.2⟩, rfl⟩)
        clear hmn hn hok
        try clear HBs
        replace HZ := Lib.hid (Nat.lt_of_lt_of_le HZ.out hbA.size)
        replace HL := Lib.hid (msg_next HL.out hbA)
        clear hbA
        generalize wA = W1 at *
        try unfold msgV strV
        refine hK.out _ _ (trivial) (fun hHeld => ?_)
        clear hK K
        try simp only [Act.put, List.getElem_toArray, List.getElem_cons_succ, List.getElem_cons_zero, List.setIfInBounds_toArray, List.set_cons_zero, List.set_cons_succ]
        refine wpAnyH_ready (rs := [3, 4]) (by kernel_rfl) (by simp) ?_
        refine AllReadyH.cons rfl (fun K hK => ?_) (AllReadyH.cons rfl (fun K hK => ?_) AllReadyH.nil)
        · go_simp
          refine (HS.out _ m _ _ (hp.out _ HL.out) (HH.out _ HL.out)).mono ?_
          rintro e wA ⟨u, rfl, hu, hbA⟩
          try replace HU := Lib.hid (nums_low HU.out fun b hb => hbA.block _ (Nat.lt_trans hb HZ.out))
          replace HX := Lib.hid ((hbA.block _ HZ.out).trans HX.out)
          try replace HN := Lib.hid (nums_on HN.out hbA)
          try replace HB := Lib.hid ((hbA.block _ HBl.out).trans HB.out)
          try replace HBl := Lib.hid (Nat.lt_of_lt_of_le HBl.out hbA.size)
          obtain ⟨vs, rfl, hvs⟩ := hu.val
          have HP := Lib.hid (lens_ok hu)
          clear hu HS HH hp
          generalize smallM m = R at *
          obtain ⟨so, sc, rfl, _, _⟩ := hvs.form
          obtain ⟨sn, hsn⟩ : ∃ k, R.list.length = k := ⟨_, rfl⟩
          rw [hsn] at hvs
          rw [hsn]
          have HU := Lib.hid hvs
          clear hsn hvs
          replace HZ := Lib.hid (Nat.lt_of_lt_of_le HZ.out hbA.size)
          replace HL := Lib.hid (msg_next HL.out hbA)
          clear hbA
          generalize wA = W1 at *
          try unfold msgV strV
          refine hK.out _ _ (trivial) (fun hHeld => ?_)
          clear hK K
          try simp only [Act.put, List.getElem_toArray, List.getElem_cons_succ, List.getElem_cons_zero, List.setIfInBounds_toArray, List.set_cons_zero, List.set_cons_succ]
          refine wpAnyH_ready (rs := [4]) (by kernel_rfl) (by simp) ?_
          refine AllReadyH.cons rfl (fun K hK => ?_) AllReadyH.nil
          go_simp
          have hbA : Below W1.heap.size W1 (W1.alloc (.cells #[.int .i64 0, .int .i64 0, .int .i64 0, .int .i64 0, .int .i64 0, .int .i64 0, .int .i64 0, .string ⟨#[]⟩, .string ⟨#[]⟩, .int .i64 0, .int .i64 0, .slice none 0 0, .string ⟨#[]⟩] 24)) := (Below.refl _ _).alloc (Nat.le_refl _) _
          try replace HN := Lib.hid (NumsIn.keep (q := fun b => (b ≠ w.heap.size ∧ b ≠ W1.heap.size) ∧ b < W1.heap.size) HN.out fun b hb => ⟨⟨⟨hb.1.1, Nat.ne_of_lt hb.2⟩, hb.2⟩, rfl⟩)
          try replace HU := Lib.hid (nums_low HU.out fun b hb => hbA.block _ (Nat.lt_trans hb HZ.out))
          replace HX := Lib.hid ((hbA.block _ HZ.out).trans HX.out)
          try replace HN := Lib.hid (nums_on HN.out hbA)
          try replace HB := Lib.hid ((hbA.block _ HBl.out).trans HB.out)
          try replace HBl := Lib.hid (Nat.lt_of_lt_of_le HBl.out hbA.size)
          have HB := Lib.hid (show (W1.alloc (.cells #[.int .i64 0, .int .i64 0, .int .i64 0, .int .i64 0, .int .i64 0, .int .i64 0, .int .i64 0, .string ⟨#[]⟩, .string ⟨#[]⟩, .int .i64 0, .int .i64 0, .slice none 0 0, .string ⟨#[]⟩] 24)).heap[W1.heap.size]? = some (.cells noCells 24 (0, 0)) from by show (W1.heap.push _)[W1.heap.size]? = some _; simp [noCells])
          have HBl := Lib.hid (show W1.heap.size < (W1.alloc (.cells #[.int .i64 0, .int .i64 0, .int .i64 0, .int .i64 0, .int .i64 0, .int .i64 0, .int .i64 0, .string ⟨#[]⟩, .string ⟨#[]⟩, .int .i64 0, .int .i64 0, .slice none 0 0, .string ⟨#[]⟩] 24)).heap.size from by simp)
          have HBo := Lib.hid (show w.heap.size < W1.heap.size from HZ.out)
          generalize W1.alloc (.cells #[.int .i64 0, .int .i64 0, .int .i64 0, .int .i64 0, .int .i64 0, .int .i64 0, .int .i64 0, .string ⟨#[]⟩, .string ⟨#[]⟩, .int .i64 0, .int .i64 0, .slice none 0 0, .string ⟨#[]⟩] 24) = wA at *
          replace HZ := Lib.hid (Nat.lt_of_lt_of_le HZ.out hbA.size)
          replace HL := Lib.hid (msg_next HL.out hbA)
          clear hbA
          generalize W1.heap.size = B at *
          generalize wA = W1 at *
          refine hK.out _ _ (trivial) (fun hHeld => ?_)
          clear hK K
          try simp only [Act.put, List.getElem_toArray, List.getElem_cons_succ, List.getElem_cons_zero, List.setIfInBounds_toArray, List.set_cons_zero, List.set_cons_succ]
          refine wpAnyH_ready (rs := [5]) (by kernel_rfl) (by simp) ?_
          refine AllReadyH.cons rfl (fun K hK => ?_) AllReadyH.nil
          obtain ⟨n0, n1_, n2, n3, n4, n5, n6, n7, n8, n9, n10, n11, n12⟩ := NoAt.of HB.out
          have fr := NoAt.free HB.out
          go_simp
          obtain ⟨W9, hW9, hbox, hk, hbw⟩ := msg_stored M (.slice mo mn mc) HB.out
          rw [← hW9]
          have h9 := (hbw 0 (Nat.zero_le _)).size
          replace HU := Lib.hid (nums_low HU.out fun b hb => hk b (by have := HBo.out; omega))
          replace HX := Lib.hid ((hk _ (by have := HBo.out; omega)).trans HX.out)
          replace HN := Lib.hid (NumsIn.keep (q := fun b => (b ≠ w.heap.size ∧ b ≠ B) ∧ b < W9.heap.size) HN.out fun b hb => ⟨⟨hb.1, Nat.lt_of_lt_of_le hb.2 h9⟩, hk b hb.1.2⟩)
          replace HB := Lib.hid hbox
          replace HBl := Lib.hid (Nat.lt_of_lt_of_le HBl.out h9)
          replace HL := Lib.hid (HL.out.trans (hbw _ (Nat.le_of_lt HBo.out)))
          replace HZ := Lib.hid (Nat.lt_of_lt_of_le HZ.out h9)
          clear hW9 hbox hk hbw h9 n0 n1_ n2 n3 n4 n5 n6 n7 n8 n9 n10 n11 n12 fr
          generalize W9 = W1 at *
          refine hK.out _ _ (trivial) (fun hHeld => ?_)
          clear hK K
          try simp only [Act.put, List.getElem_toArray, List.getElem_cons_succ, List.getElem_cons_zero, List.setIfInBounds_toArray, List.set_cons_zero, List.set_cons_succ]
          refine wpAnyH_ready (rs := [6]) (by kernel_rfl) (by simp) ?_
          refine AllReadyH.cons rfl (fun K hK => ?_) AllReadyH.nil
          obtain ⟨c0, c1, c2, c3, c4, c5, c6, c7, c8, c9, c10, c11, c12⟩ := MsgAt.of HX.out
          try unfold strV at c7 c8 c12
          have fr : ∀ j : Nat, W1.frozen? ⟨w.heap.size, j, none⟩ = false := fun j => by simp [World.frozen?, HX.out]
          have g0 := fr 0
          have g1 := fr 1
          have g2 := fr 2
          have g3 := fr 3
          have g4 := fr 4
          have g5 := fr 5
          have g6 := fr 6
          have g7 := fr 7
          have g8 := fr 8
          have g9 := fr 9
          have g10 := fr 10
          have g11 := fr 11
          have g12 := fr 12
          clear fr
          go_simp
          obtain ⟨W9, hW9, hbox, hk, hbw⟩ := msg_over m (.slice lo nn lc) R (.slice so sn sc) HX.out
          rw [← hW9]
          have h9 := (hbw 0 (Nat.zero_le _)).size
          have HT := Lib.hid (show TwoAt w W9 B M R (.slice mo mn mc) (.slice so sn sc) from ⟨hbox, (hk _ (by have := HBo.out; omega)).trans HB.out, HN.out.keep fun b hb => ⟨⟨hb.1.2, Nat.lt_of_lt_of_le hb.2 h9⟩, hk b hb.1.1⟩, HU.out.keep fun b hb => (show (b ≠ B ∧ b < W9.heap.size) ∧ W9.heap[b]? = W1.heap[b]? from by have hb1 : b < w.heap.size := hb; have := HBo.out; have := HZ.out; exact ⟨⟨by omega, by omega⟩, hk b (by omega)⟩), HO.out, HP.out, HL.out.trans (hbw _ (Nat.le_refl _)), HBo.out⟩)
          clear hW9 hbox hk hbw h9 c0 c1 c2 c3 c4 c5 c6 c7 c8 c9 c10 c11 c12 g0 g1 g2 g3 g4 g5 g6 g7 g8 g9 g10 g11 g12 HU HX HN HB HBl HL HZ HBo HO HP
          generalize W9 = W1 at *
          refine hK.out _ _ (trivial) (fun hHeld => ?_)
          clear hK K
          try simp only [Act.put, List.getElem_toArray, List.getElem_cons_succ, List.getElem_cons_zero, List.setIfInBounds_toArray, List.set_cons_zero, List.set_cons_succ]
          refine wpAnyH_done (by kernel_rfl) ?_ _
          refine NoPanic.normal ?_
          clear hHeld
          go_wp2_with fail
          go_meet
          case rel => exact ⟨rfl, B, M, R, _, _, rfl, HT⟩
        · go_simp
          have hbA : Below W1.heap.size W1 (W1.alloc (.cells #[.int .i64 0, .int .i64 0, .int .i64 0, .int .i64 0, .int .i64 0, .int .i64 0, .int .i64 0, .string ⟨#[]⟩, .string ⟨#[]⟩, .int .i64 0, .int .i64 0, .slice none 0 0, .string ⟨#[]⟩] 24)) := (Below.refl _ _).alloc (Nat.le_refl _) _
          try replace HN := Lib.hid (NumsIn.keep (q := fun b => (b ≠ w.heap.size ∧ b ≠ W1.heap.size) ∧ b < W1.heap.size) HN.out fun b hb => ⟨⟨⟨hb.1.1, Nat.ne_of_lt hb.2⟩, hb.2⟩, rfl⟩)
          try replace HU := Lib.hid (nums_low HU.out fun b hb => hbA.block _ (Nat.lt_trans hb HZ.out))
          replace HX := Lib.hid ((hbA.block _ HZ.out).trans HX.out)
          try replace HN := Lib.hid (nums_on HN.out hbA)
          try replace HB := Lib.hid ((hbA.block _ HBl.out).trans HB.out)
          try replace HBl := Lib.hid (Nat.lt_of_lt_of_le HBl.out hbA.size)
          have HB := Lib.hid (show (W1.alloc (.cells #[.int .i64 0, .int .i64 0, .int .i64 0, .int .i64 0, .int .i64 0, .int .i64 0, .int .i64 0, .string ⟨#[]⟩, .string ⟨#[]⟩, .int .i64 0, .int .i64 0, .slice none 0 0, .string ⟨#[]⟩] 24)).heap[W1.heap.size]? = some (.cells noCells 24 (0, 0)) from by show (W1.heap.push _)[W1.heap.size]? = some _; simp [noCells])
          have HBl := Lib.hid (show W1.heap.size < (W1.alloc (.cells #[.int .i64 0, .int .i64 0, .int .i64 0, .int .i64 0, .int .i64 0, .int .i64 0, .int .i64 0, .string ⟨#[]⟩, .string ⟨#[]⟩, .int .i64 0, .int .i64 0, .slice none 0 0, .string ⟨#[]⟩] 24)).heap.size from by simp)
          have HBo := Lib.hid (show w.heap.size < W1.heap.size from HZ.out)
          generalize W1.alloc (.cells #[.int .i64 0, .int .i64 0, .int .i64 0, .int .i64 0, .int .i64 0, .int .i64 0, .int .i64 0, .string ⟨#[]⟩, .string ⟨#[]⟩, .int .i64 0, .int .i64 0, .slice none 0 0, .string ⟨#[]⟩] 24) = wA at *
          replace HZ := Lib.hid (Nat.lt_of_lt_of_le HZ.out hbA.size)
          replace HL := Lib.hid (msg_next HL.out hbA)
          clear hbA
          generalize W1.heap.size = B at *
          generalize wA = W1 at *
          refine hK.out _ _ (trivial) (fun hHeld => ?_)
          clear hK K
          try simp only [Act.put, List.getElem_toArray, List.getElem_cons_succ, List.getElem_cons_zero, List.setIfInBounds_toArray, List.set_cons_zero, List.set_cons_succ]
          refine wpAnyH_ready (rs := [3]) (by kernel_rfl) (by simp) ?_
          refine AllReadyH.cons rfl (fun K hK => ?_) AllReadyH.nil
          go_simp
          refine (HS.out _ m _ _ (hp.out _ HL.out) (HH.out _ HL.out)).mono ?_
          rintro e wA ⟨u, rfl, hu, hbA⟩
          try replace HU := Lib.hid (nums_low HU.out fun b hb => hbA.block _ (Nat.lt_trans hb HZ.out))
          replace HX := Lib.hid ((hbA.block _ HZ.out).trans HX.out)
          try replace HN := Lib.hid (nums_on HN.out hbA)
          try replace HB := Lib.hid ((hbA.block _ HBl.out).trans HB.out)
          try replace HBl := Lib.hid (Nat.lt_of_lt_of_le HBl.out hbA.size)
          obtain ⟨vs, rfl, hvs⟩ := hu.val
          have HP := Lib.hid (lens_ok hu)
          clear hu HS HH hp
          generalize smallM m = R at *
          obtain ⟨so, sc, rfl, _, _⟩ := hvs.form
          obtain ⟨sn, hsn⟩ : ∃ k, R.list.length = k := ⟨_, rfl⟩
          rw [hsn] at hvs
          rw [hsn]
          have HU := Lib.hid hvs
          clear hsn hvs
          replace HZ := Lib.hid (Nat.lt_of_lt_of_le HZ.out hbA.size)
          replace HL := Lib.hid (msg_next HL.out hbA)
          clear hbA
          generalize wA = W1 at *
          try unfold msgV strV
          refine hK.out _ _ (trivial) (fun hHeld => ?_)
          clear hK K
          try simp only [Act.put, List.getElem_toArray, List.getElem_cons_succ, List.getElem_cons_zero, List.setIfInBounds_toArray, List.set_cons_zero, List.set_cons_succ]
          refine wpAnyH_ready (rs := [5]) (by kernel_rfl) (by simp) ?_
          refine AllReadyH.cons rfl (fun K hK => ?_) AllReadyH.nil
          obtain ⟨n0, n1_, n2, n3, n4, n5, n6, n7, n8, n9, n10, n11, n12⟩ := NoAt.of HB.out
          have fr := NoAt.free HB.out
          go_simp
          obtain ⟨W9, hW9, hbox, hk, hbw⟩ := msg_stored M (.slice mo mn mc) HB.out
          rw [← hW9]
          have h9 := (hbw 0 (Nat.zero_le _)).size
          replace HU := Lib.hid (nums_low HU.out fun b hb => hk b (by have := HBo.out; omega))
          replace HX := Lib.hid ((hk _ (by have := HBo.out; omega)).trans HX.out)
          replace HN := Lib.hid (NumsIn.keep (q := fun b => (b ≠ w.heap.size ∧ b ≠ B) ∧ b < W9.heap.size) HN.out fun b hb => ⟨⟨hb.1, Nat.lt_of_lt_of_le hb.2 h9⟩, hk b hb.1.2⟩)
          replace HB := Lib.hid hbox
          replace HBl := Lib.hid (Nat.lt_of_lt_of_le HBl.out h9)
          replace HL := Lib.hid (HL.out.trans (hbw _ (Nat.le_of_lt HBo.out)))
          replace HZ := Lib.hid (Nat.lt_of_lt_of_le HZ.out h9)
          clear hW9 hbox hk hbw h9 n0 n1_ n2 n3 n4 n5 n6 n7 n8 n9 n10 n11 n12 fr
          generalize W9 = W1 at *
          refine hK.out _ _ (trivial) (fun hHeld => ?_)
          clear hK K
          try simp only [Act.put, List.getElem_toArray, List.getElem_cons_succ, List.getElem_cons_zero, List.setIfInBounds_toArray, List.set_cons_zero, List.set_cons_succ]
          refine wpAnyH_ready (rs := [6]) (by kernel_rfl) (by simp) ?_
          refine AllReadyH.cons rfl (fun K hK => ?_) AllReadyH.nil
          obtain ⟨c0, c1, c2, c3, c4, c5, c6, c7, c8, c9, c10, c11, c12⟩ := MsgAt.of HX.out
          try unfold strV at c7 c8 c12
          have fr : ∀ j : Nat, W1.frozen? ⟨w.heap.size, j, none⟩ = false := fun j => by simp [World.frozen?, HX.out]
          have g0 := fr 0
          have g1 := fr 1
          have g2 := fr 2
          have g3 := fr 3
          have g4 := fr 4
          have g5 := fr 5
          have g6 := fr 6
          have g7 := fr 7
          have g8 := fr 8
          have g9 := fr 9
          have g10 := fr 10
          have g11 := fr 11
          have g12 := fr 12
          clear fr
          go_simp
          obtain ⟨W9, hW9, hbox, hk, hbw⟩ := msg_over m (.slice lo nn lc) R (.slice so sn sc) HX.out
          rw [← hW9]
          have h9 := (hbw 0 (Nat.zero_le _)).size
          have HT := Lib.hid (show TwoAt w W9 B M R (.slice mo mn mc) (.slice so sn sc) from ⟨hbox, (hk _ (by have := HBo.out; omega)).trans HB.out, HN.out.keep fun b hb => ⟨⟨hb.1.2, Nat.lt_of_lt_of_le hb.2 h9⟩, hk b hb.1.1⟩, HU.out.keep fun b hb => (show (b ≠ B ∧ b < W9.heap.size) ∧ W9.heap[b]? = W1.heap[b]? from by have hb1 : b < w.heap.size := hb; have := HBo.out; have := HZ.out; exact ⟨⟨by omega, by omega⟩, hk b (by omega)⟩), HO.out, HP.out, HL.out.trans (hbw _ (Nat.le_refl _)), HBo.out⟩)
          clear hW9 hbox hk hbw h9 c0 c1 c2 c3 c4 c5 c6 c7 c8 c9 c10 c11 c12 g0 g1 g2 g3 g4 g5 g6 g7 g8 g9 g10 g11 g12 HU HX HN HB HBl HL HZ HBo HO HP
          generalize W9 = W1 at *
          refine hK.out _ _ (trivial) (fun hHeld => ?_)
          clear hK K
          try simp only [Act.put, List.getElem_toArray, List.getElem_cons_succ, List.getElem_cons_zero, List.setIfInBounds_toArray, List.set_cons_zero, List.set_cons_succ]
          refine wpAnyH_done (by kernel_rfl) ?_ _
          refine NoPanic.normal ?_
          clear hHeld
          go_wp2_with fail
          go_meet
          case rel => exact ⟨rfl, B, M, R, _, _, rfl, HT⟩
      · go_simp
        have hbA : Below W1.heap.size W1 (W1.alloc (.cells #[.int .i64 0, .int .i64 0, .int .i64 0, .int .i64 0, .int .i64 0, .int .i64 0, .int .i64 0, .string ⟨#[]⟩, .string ⟨#[]⟩, .int .i64 0, .int .i64 0, .slice none 0 0, .string ⟨#[]⟩] 24)) := (Below.refl _ _).alloc (Nat.le_refl _) _
        try replace HN := Lib.hid (NumsIn.keep (q := fun b => (b ≠ w.heap.size ∧ b ≠ W1.heap.size) ∧ b < W1.heap.size) HN.out fun b hb => ⟨⟨⟨hb.1.1, Nat.ne_of_lt hb.2⟩, hb.2⟩, rfl⟩)
        try replace HU := Lib.hid (nums_low HU.out fun b hb => hbA.block _ (Nat.lt_trans hb HZ.out))
        replace HX := Lib.hid ((hbA.block _ HZ.out).trans HX.out)
        try replace HN := Lib.hid (nums_on HN.out hbA)
        try replace HB := Lib.hid ((hbA.block _ HBl.out).trans HB.out)
        try replace HBl := Lib.hid (Nat.lt_of_lt_of_le HBl.out hbA.size)
        have HB := Lib.hid (show (W1.alloc (.cells #[.int .i64 0, .int .i64 0, .int .i64 0, .int .i64 0, .int .i64 0, .int .i64 0, .int .i64 0, .string ⟨#[]⟩, .string ⟨#[]⟩, .int .i64 0, .int .i64 0, .slice none 0 0, .string ⟨#[]⟩] 24)).heap[W1.heap.size]? = some (.cells noCells 24 (0, 0)) from by show (W1.heap.push _)[W1.heap.size]? = some _; simp [noCells])
        have HBl := Lib.hid (show W1.heap.size < (W1.alloc (.cells #[.int .i64 0, .int .i64 0, .int .i64 0, .int .i64 0, .int .i64 0, .int .i64 0, .int .i64 0, .string ⟨#[]⟩, .string ⟨#[]⟩, .int .i64 0, .int .i64 0, .slice none 0 0, .string ⟨#[]⟩] 24)).heap.size from by simp)
        have HBo := Lib.hid (show w.heap.size < W1.heap.size from HZ.out)
        generalize W1.alloc (.cells #[.int .i64 0, .int .i64 0, .int .i64 0, .int .i64 0, .int .i64 0, .int .i64 0, .int .i64 0, .string ⟨#[]⟩, .string ⟨#[]⟩, .int .i64 0, .int .i64 0, .slice none 0 0, .string ⟨#[]⟩] 24) = wA at *
        replace HZ := Lib.hid (Nat.lt_of_lt_of_le HZ.out hbA.size)
        replace HL := Lib.hid (msg_next HL.out hbA)
        clear hbA
        generalize W1.heap.size = B at *
        generalize wA = W1 at *
        refine hK.out _ _ (trivial) (fun hHeld => ?_)
        clear hK K
        try simp only [Act.put, List.getElem_toArray, List.getElem_cons_succ, List.getElem_cons_zero, List.setIfInBounds_toArray, List.set_cons_zero, List.set_cons_succ]
        refine wpAnyH_ready (rs := [1]) (by kernel_rfl) (by simp) ?_
        refine AllReadyH.cons rfl (fun K hK => ?_) AllReadyH.nil
        go_simp
        try have HBs := Lib.hid HBl.out
        refine (HM.out _ (listAt_later H1.out HL.out)).mono ?_
        rintro e wA ⟨M, vl, rfl, hok, hn, hbA⟩
        try replace HU := Lib.hid (nums_low HU.out fun b hb => hbA.block _ (Nat.lt_trans hb HZ.out))
        replace HX := Lib.hid ((hbA.block _ HZ.out).trans HX.out)
        try replace HN := Lib.hid (nums_on HN.out hbA)
        try replace HB := Lib.hid ((hbA.block _ HBl.out).trans HB.out)
        try replace HBl := Lib.hid (Nat.lt_of_lt_of_le HBl.out hbA.size)
        obtain ⟨mo, mc, rfl, _, _⟩ := hn.form
        obtain ⟨mn, hmn⟩ : ∃ k, M.list.length = k := ⟨_, rfl⟩
        rw [hmn] at hn
        rw [hmn]
        have HO := Lib.hid (lens_ok (made_in (w := wA) hok (hn.keep fun b hb => ⟨hb.2, rfl⟩)))
        first
          | have HN := Lib.hid (NumsIn.keep (q := fun b => (b ≠ w.heap.size ∧ b ≠ B) ∧ b < wA.heap.size) hn fun b hb => ⟨⟨⟨by have := HZ.out; have := hb.1; omega, by have := HBs.out; have := hb.1; omega⟩, hb.2⟩, rfl⟩)
          | have HN := Lib.hid (NumsIn.keep (q := fun b => (b ≠ w.heap.size ∧ True) ∧ b < wA.heap.size) hn fun b hb => ⟨⟨⟨by have := HZ.out; have := hb.1; omega, trivial⟩, hb.2⟩, rfl⟩)
        clear hmn hn hok
        try clear HBs
        replace HZ := Lib.hid (Nat.lt_of_lt_of_le HZ.out hbA.size)
        replace HL := Lib.hid (msg_next HL.out hbA)
        clear hbA
        generalize wA = W1 at *
        try unfold msgV strV
        refine hK.out _ _ (trivial) (fun hHeld => ?_)
        clear hK K
        try simp only [Act.put, List.getElem_toArray, List.getElem_cons_succ, List.getElem_cons_zero, List.setIfInBounds_toArray, List.set_cons_zero, List.set_cons_succ]
        refine wpAnyH_ready (rs := [3]) (by kernel_rfl) (by simp) ?_
        refine AllReadyH.cons rfl (fun K hK => ?_) AllReadyH.nil
        go_simp
        refine (HS.out _ m _ _ (hp.out _ HL.out) (HH.out _ HL.out)).mono ?_
        rintro e wA ⟨u, rfl, hu, hbA⟩
        try replace HU := Lib.hid (nums_low HU.out fun b hb => hbA.block _ (Nat.lt_trans hb HZ.out))
        replace HX := Lib.hid ((hbA.block _ HZ.out).trans HX.out)
        try replace HN := Lib.hid (nums_on HN.out hbA)
        try replace HB := Lib.hid ((hbA.block _ HBl.out).trans HB.out)
        try replace HBl := Lib.hid (Nat.lt_of_lt_of_le HBl.out hbA.size)
        obtain ⟨vs, rfl, hvs⟩ := hu.val
        have HP := Lib.hid (lens_ok hu)
        clear hu HS HH hp
        generalize smallM m = R at *
        obtain ⟨so, sc, rfl, _, _⟩ := hvs.form
        obtain ⟨sn, hsn⟩ : ∃ k, R.list.length = k := ⟨_, rfl⟩
        rw [hsn] at hvs
        rw [hsn]
        have HU := Lib.hid hvs
        clear hsn hvs
        replace HZ := Lib.hid (Nat.lt_of_lt_of_le HZ.out hbA.size)
        replace HL := Lib.hid (msg_next HL.out hbA)
        clear hbA
        generalize wA = W1 at *
        try unfold msgV strV
        refine hK.out _ _ (trivial) (fun hHeld => ?_)
        clear hK K
        try simp only [Act.put, List.getElem_toArray, List.getElem_cons_succ, List.getElem_cons_zero, List.setIfInBounds_toArray, List.set_cons_zero, List.set_cons_succ]
        refine wpAnyH_ready (rs := [5]) (by kernel_rfl) (by simp) ?_
        refine AllReadyH.cons rfl (fun K hK => ?_) AllReadyH.nil
        obtain ⟨n0, n1_, n2, n3, n4, n5, n6, n7, n8, n9, n10, n11, n12⟩ := NoAt.of HB.out
        have fr := NoAt.free HB.out
        go_simp
        obtain ⟨W9, hW9, hbox, hk, hbw⟩ := msg_stored M (.slice mo mn mc) HB.out
        rw [← hW9]
        have h9 := (hbw 0 (Nat.zero_le _)).size
        replace HU := Lib.hid (nums_low HU.out fun b hb => hk b (by have := HBo.out; omega))
        replace HX := Lib.hid ((hk _ (by have := HBo.out; omega)).trans HX.out)
        replace HN := Lib.hid (NumsIn.keep (q := fun b => (b ≠ w.heap.size ∧ b ≠ B) ∧ b < W9.heap.size) HN.out fun b hb => ⟨⟨hb.1, Nat.lt_of_lt_of_le hb.2 h9⟩, hk b hb.1.2⟩)
        replace HB := Lib.hid hbox
        replace HBl := Lib.hid (Nat.lt_of_lt_of_le HBl.out h9)
        replace HL := Lib.hid (HL.out.trans (hbw _ (Nat.le_of_lt HBo.out)))
        replace HZ := Lib.hid (Nat.lt_of_lt_of_le HZ.out h9)
        clear hW9 hbox hk hbw h9 n0 n1_ n2 n3 n4 n5 n6 n7 n8 n9 n10 n11 n12 fr
        generalize W9 = W1 at *
        refine hK.out _ _ (trivial) (fun hHeld => ?_)
        clear hK K
        try simp only [Act.put, List.getElem_toArray, List.getElem_cons_succ, List.getElem_cons_zero, List.setIfInBounds_toArray, List.set_cons_zero, List.set_cons_succ]
        refine wpAnyH_ready (rs := [6]) (by kernel_rfl) (by simp) ?_
        refine AllReadyH.cons rfl (fun K hK => ?_) AllReadyH.nil
        obtain ⟨c0, c1, c2, c3, c4, c5, c6, c7, c8, c9, c10, c11, c12⟩ := MsgAt.of HX.out
        try unfold strV at c7 c8 c12
        have fr : ∀ j : Nat, W1.frozen? ⟨w.heap.size, j, none⟩ = false := fun j => by simp [World.frozen?, HX.out]
        have g0 := fr 0
        have g1 := fr 1
        have g2 := fr 2
        have g3 := fr 3
        have g4 := fr 4
        have g5 := fr 5
        have g6 := fr 6
        have g7 := fr 7
        have g8 := fr 8
        have g9 := fr 9
        have g10 := fr 10
        have g11 := fr 11
        have g12 := fr 12
        clear fr
        go_simp
        obtain ⟨W9, hW9, hbox, hk, hbw⟩ := msg_over m (.slice lo nn lc) R (.slice so sn sc) HX.out
        rw [← hW9]
        have h9 := (hbw 0 (Nat.zero_le _)).size
        have HT := Lib.hid (show TwoAt w W9 B M R (.slice mo mn mc) (.slice so sn sc) from ⟨hbox, (hk _ (by have := HBo.out; omega)).trans HB.out, HN.out.keep fun b hb => ⟨⟨hb.1.2, Nat.lt_of_lt_of_le hb.2 h9⟩, hk b hb.1.1⟩, HU.out.keep fun b hb => (show (b ≠ B ∧ b < W9.heap.size) ∧ W9.heap[b]? = W1.heap[b]? from by have hb1 : b < w.heap.size := hb; have := HBo.out; have := HZ.out; exact ⟨⟨by omega, by omega⟩, hk b (by omega)⟩), HO.out, HP.out, HL.out.trans (hbw _ (Nat.le_refl _)), HBo.out⟩)
        clear hW9 hbox hk hbw h9 c0 c1 c2 c3 c4 c5 c6 c7 c8 c9 c10 c11 c12 g0 g1 g2 g3 g4 g5 g6 g7 g8 g9 g10 g11 g12 HU HX HN HB HBl HL HZ HBo HO HP
        generalize W9 = W1 at *
        refine hK.out _ _ (trivial) (fun hHeld => ?_)
        clear hK K
        try simp only [Act.put, List.getElem_toArray, List.getElem_cons_succ, List.getElem_cons_zero, List.setIfInBounds_toArray, List.set_cons_zero, List.set_cons_succ]
        refine wpAnyH_done (by kernel_rfl) ?_ _
        refine NoPanic.normal ?_
        clear hHeld
        go_wp2_with fail
        go_meet
        case rel => exact ⟨rfl, B, M, R, _, _, rfl, HT⟩
    · go_simp
      have hbA : Below W1.heap.size W1 (W1.alloc (.cells #[.int .i64 0, .int .i64 0, .int .i64 0, .int .i64 0, .int .i64 0, .int .i64 0, .int .i64 0, .string ⟨#[]⟩, .string ⟨#[]⟩, .int .i64 0, .int .i64 0, .slice none 0 0, .string ⟨#[]⟩] 24)) := (Below.refl _ _).alloc (Nat.le_refl _) _
      try replace HN := Lib.hid (NumsIn.keep (q := fun b => (b ≠ w.heap.size ∧ b ≠ W1.heap.size) ∧ b < W1.heap.size) HN.out fun b hb => ⟨⟨⟨hb.1.1, Nat.ne_of_lt hb.2⟩, hb.2⟩, rfl⟩)
      try replace HU := Lib.hid (nums_low HU.out fun b hb => hbA.block _ (Nat.lt_trans hb HZ.out))
      replace HX := Lib.hid ((hbA.block _ HZ.out).trans HX.out)
      try replace HN := Lib.hid (nums_on HN.out hbA)
      try replace HB := Lib.hid ((hbA.block _ HBl.out).trans HB.out)
      try replace HBl := Lib.hid (Nat.lt_of_lt_of_le HBl.out hbA.size)
      have HB := Lib.hid (show (W1.alloc (.cells #[.int .i64 0, .int .i64 0, .int .i64 0, .int .i64 0, .int .i64 0, .int .i64 0, .int .i64 0, .string ⟨#[]⟩, .string ⟨#[]⟩, .int .i64 0, .int .i64 0, .slice none 0 0, .string ⟨#[]⟩] 24)).heap[W1.heap.size]? = some (.cells noCells 24 (0, 0)) from by show (W1.heap.push _)[W1.heap.size]? = some _; simp [noCells])
      have HBl := Lib.hid (show W1.heap.size < (W1.alloc (.cells #[.int .i64 0, .int .i64 0, .int .i64 0, .int .i64 0, .int .i64 0, .int .i64 0, .int .i64 0, .string ⟨#[]⟩, .string ⟨#[]⟩, .int .i64 0, .int .i64 0, .slice none 0 0, .string ⟨#[]⟩] 24)).heap.size from by simp)
      have HBo := Lib.hid (show w.heap.size < W1.heap.size from HZ.out)
      generalize W1.alloc (.cells #[.int .i64 0, .int .i64 0, .int .i64 0, .int .i64 0, .int .i64 0, .int .i64 0, .int .i64 0, .string ⟨#[]⟩, .string ⟨#[]⟩, .int .i64 0, .int .i64 0, .slice none 0 0, .string ⟨#[]⟩] 24) = wA at *
      replace HZ := Lib.hid (Nat.lt_of_lt_of_le HZ.out hbA.size)
      replace HL := Lib.hid (msg_next HL.out hbA)
      clear hbA
      generalize W1.heap.size = B at *
      generalize wA = W1 at *
      refine hK.out _ _ (trivial) (fun hHeld => ?_)
      clear hK K
      try simp only [Act.put, List.getElem_toArray, List.getElem_cons_succ, List.getElem_cons_zero, List.setIfInBounds_toArray, List.set_cons_zero, List.set_cons_succ]
      refine wpAnyH_ready (rs := [1, 2]) (by kernel_rfl) (by simp) ?_
      refine AllReadyH.cons rfl (fun K hK => ?_) (AllReadyH.cons rfl (fun K hK => ?_) AllReadyH.nil)
      · go_simp
        try have HBs := Lib.hid HBl.out
        refine (HM.out _ (listAt_later H1.out HL.out)).mono ?_
        rintro e wA ⟨M, vl, rfl, hok, hn, hbA⟩
        try replace HU := Lib.hid (nums_low HU.out fun b hb => hbA.block _ (Nat.lt_trans hb HZ.out))
        replace HX := Lib.hid ((hbA.block _ HZ.out).trans HX.out)
        try replace HN := Lib.hid (nums_on HN.out hbA)
        try replace HB := Lib.hid ((hbA.block _ HBl.out).trans HB.out)
        try replace HBl := Lib.hid (Nat.lt_of_lt_of_le HBl.out hbA.size)
        obtain ⟨mo, mc, rfl, _, _⟩ := hn.form
        obtain ⟨mn, hmn⟩ : ∃ k, M.list.length = k := ⟨_, rfl⟩
        rw [hmn] at hn
        rw [hmn]
        have HO := Lib.hid (lens_ok (made_in (w := wA) hok (hn.keep fun b hb => ⟨hb.2, rfl⟩)))
        first
          | have HN := Lib.hid (NumsIn.keep (q := fun b => (b ≠ w.heap.size ∧ b ≠ B) ∧ b < wA.heap.size) hn fun b hb => ⟨⟨⟨by have := HZ.out; have := hb.1; omega, by have := HBs.out; have := hb.1; omega⟩, hb.2⟩, rfl⟩)
          | have HN := Lib.hid (NumsIn.keep (q := fun b => (b ≠ w.heap.size ∧ True) ∧ b < wA.heap.size) hn fun b hb => ⟨⟨⟨by have := HZ.out; have := hb.1; omega, trivial⟩, hb.2⟩, rfl⟩)
        clear hmn hn hok
        try clear HBs
        replace HZ := Lib.hid (Nat.lt_of_lt_of_le HZ.out hbA.size)
        replace HL := Lib.hid (msg_next HL.out hbA)
        clear hbA
        generalize wA = W1 at *
        try unfold msgV strV
        refine hK.out _ _ (trivial) (fun hHeld => ?_)
        clear hK K
        try simp only [Act.put, List.getElem_toArray, List.getElem_cons_succ, List.getElem_cons_zero, List.setIfInBounds_toArray, List.set_cons_zero, List.set_cons_succ]
        refine wpAnyH_ready (rs := [2]) (by kernel_rfl) (by simp) ?_
        refine AllReadyH.cons rfl (fun K hK => ?_) AllReadyH.nil
        obtain ⟨c0, c1, c2, c3, c4, c5, c6, c7, c8, c9, c10, c11, c12⟩ := MsgAt.of HX.out
        try unfold strV at c7 c8 c12
        go_simp
        clear c0 c1 c2 c3 c4 c5 c6 c7 c8 c9 c10 c11 c12
        refine hK.out _ _ (trivial) (fun hHeld => ?_)
        clear hK K
        try simp only [Act.put, List.getElem_toArray, List.getElem_cons_succ, List.getElem_cons_zero, List.setIfInBounds_toArray, List.set_cons_zero, List.set_cons_succ]
        refine wpAnyH_ready (rs := [3]) (by kernel_rfl) (by simp) ?_
        refine AllReadyH.cons rfl (fun K hK => ?_) AllReadyH.nil
        go_simp
        refine (HS.out _ m _ _ (hp.out _ HL.out) (HH.out _ HL.out)).mono ?_
        rintro e wA ⟨u, rfl, hu, hbA⟩
        try replace HU := Lib.hid (nums_low HU.out fun b hb => hbA.block _ (Nat.lt_trans hb HZ.out))
        replace HX := Lib.hid ((hbA.block _ HZ.out).trans HX.out)
        try replace HN := Lib.hid (nums_on HN.out hbA)
        try replace HB := Lib.hid ((hbA.block _ HBl.out).trans HB.out)
        try replace HBl := Lib.hid (Nat.lt_of_lt_of_le HBl.out hbA.size)
        obtain ⟨vs, rfl, hvs⟩ := hu.val
        have HP := Lib.hid (lens_ok hu)
        clear hu HS HH hp
        generalize smallM m = R at *
        obtain ⟨so, sc, rfl, _, _⟩ := hvs.form
        obtain ⟨sn, hsn⟩ : ∃ k, R.list.length = k := ⟨_, rfl⟩
        rw [hsn] at hvs
        rw [hsn]
        have HU := Lib.hid hvs
        clear hsn hvs
        replace HZ := Lib.hid (Nat.lt_of_lt_of_le HZ.out hbA.size)
        replace HL := Lib.hid (msg_next HL.out hbA)
        clear hbA
        generalize wA = W1 at *
        try unfold msgV strV
        refine hK.out _ _ (trivial) (fun hHeld => ?_)
        clear hK K
        try simp only [Act.put, List.getElem_toArray, List.getElem_cons_succ, List.getElem_cons_zero, List.setIfInBounds_toArray, List.set_cons_zero, List.set_cons_succ]
        refine wpAnyH_ready (rs := [5]) (by kernel_rfl) (by simp) ?_
        refine AllReadyH.cons rfl (fun K hK => ?_) AllReadyH.nil
        obtain ⟨n0, n1_, n2, n3, n4, n5, n6, n7, n8, n9, n10, n11, n12⟩ := NoAt.of HB.out
        have fr := NoAt.free HB.out
        go_simp
        obtain ⟨W9, hW9, hbox, hk, hbw⟩ := msg_stored M (.slice mo mn mc) HB.out
        rw [← hW9]
        have h9 := (hbw 0 (Nat.zero_le _)).size
        replace HU := Lib.hid (nums_low HU.out fun b hb => hk b (by have := HBo.out; omega))
        replace HX := Lib.hid ((hk _ (by have := HBo.out; omega)).trans HX.out)
        replace HN := Lib.hid (NumsIn.keep (q := fun b => (b ≠ w.heap.size ∧ b ≠ B) ∧ b < W9.heap.size) HN.out fun b hb => ⟨⟨hb.1, Nat.lt_of_lt_of_le hb.2 h9⟩, hk b hb.1.2⟩)
        replace HB := Lib.hid hbox
        replace HBl := Lib.hid (Nat.lt_of_lt_of_le HBl.out h9)
        replace HL := Lib.hid (HL.out.trans (hbw _ (Nat.le_of_lt HBo.out)))
        replace HZ := Lib.hid (Nat.lt_of_lt_of_le HZ.out h9)
        clear hW9 hbox hk hbw h9 n0 n1_ n2 n3 n4 n5 n6 n7 n8 n9 n10 n11 n12 fr
        generalize W9 = W1 at *
        refine hK.out _ _ (trivial) (fun hHeld => ?_)
        clear hK K
        try simp only [Act.put, List.getElem_toArray, List.getElem_cons_succ, List.getElem_cons_zero, List.setIfInBounds_toArray, List.set_cons_zero, List.set_cons_succ]
        refine wpAnyH_ready (rs := [6]) (by kernel_rfl) (by simp) ?_
        refine AllReadyH.cons rfl (fun K hK => ?_) AllReadyH.nil
        obtain ⟨c0, c1, c2, c3, c4, c5, c6, c7, c8, c9, c10, c11, c12⟩ := MsgAt.of HX.out
        try unfold strV at c7 c8 c12
        have fr : ∀ j : Nat, W1.frozen? ⟨w.heap.size, j, none⟩ = false := fun j => by simp [World.frozen?, HX.out]
        have g0 := fr 0
        have g1 := fr 1
        have g2 := fr 2
        have g3 := fr 3
        have g4 := fr 4
        have g5 := fr 5
        have g6 := fr 6
        have g7 := fr 7
        have g8 := fr 8
        have g9 := fr 9
        have g10 := fr 10
        have g11 := fr 11
        have g12 := fr 12
        clear fr
        go_simp
        obtain ⟨W9, hW9, hbox, hk, hbw⟩ := msg_over m (.slice lo nn lc) R (.slice so sn sc) HX.out
        rw [← hW9]
        have h9 := (hbw 0 (Nat.zero_le _)).size
        have HT := Lib.hid (show TwoAt w W9 B M R (.slice mo mn mc) (.slice so sn sc) from ⟨hbox, (hk _ (by have := HBo.out; omega)).trans HB.out, HN.out.keep fun b hb => ⟨⟨hb.1.2, Nat.lt_of_lt_of_le hb.2 h9⟩, hk b hb.1.1⟩, HU.out.keep fun b hb => (show (b ≠ B ∧ b < W9.heap.size) ∧ W9.heap[b]? = W1.heap[b]? from by have hb1 : b < w.heap.size := hb; have := HBo.out; have := HZ.out; exact ⟨⟨by omega, by omega⟩, hk b (by omega)⟩), HO.out, HP.out, HL.out.trans (hbw _ (Nat.le_refl _)), HBo.out⟩)
        clear hW9 hbox hk hbw h9 c0 c1 c2 c3 c4 c5 c6 c7 c8 c9 c10 c11 c12 g0 g1 g2 g3 g4 g5 g6 g7 g8 g9 g10 g11 g12 HU HX HN HB HBl HL HZ HBo HO HP
        generalize W9 = W1 at *
        refine hK.out _ _ (trivial) (fun hHeld => ?_)
        clear hK K
        try simp only [Act.put, List.getElem_toArray, List.getElem_cons_succ, List.getElem_cons_zero, List.setIfInBounds_toArray, List.set_cons_zero, List.set_cons_succ]
        refine wpAnyH_done (by kernel_rfl) ?_ _
        refine NoPanic.normal ?_
        clear hHeld
        go_wp2_with fail
        go_meet
        case rel => exact ⟨rfl, B, M, R, _, _, rfl, HT⟩
      · obtain ⟨c0, c1, c2, c3, c4, c5, c6, c7, c8, c9, c10, c11, c12⟩ := MsgAt.of HX.out
        try unfold strV at c7 c8 c12
        go_simp
        clear c0 c1 c2 c3 c4 c5 c6 c7 c8 c9 c10 c11 c12
        refine hK.out _ _ (trivial) (fun hHeld => ?_)
        clear hK K
        try simp only [Act.put, List.getElem_toArray, List.getElem_cons_succ, List.getElem_cons_zero, List.setIfInBounds_toArray, List.set_cons_zero, List.set_cons_succ]
        refine wpAnyH_ready (rs := [1]) (by kernel_rfl) (by simp) ?_
        refine AllReadyH.cons rfl (fun K hK => ?_) AllReadyH.nil
        go_simp
        try have HBs := Lib.hid HBl.out
        refine (HM.out _ (listAt_later H1.out HL.out)).mono ?_
        rintro e wA ⟨M, vl, rfl, hok, hn, hbA⟩
        try replace HU := Lib.hid (nums_low HU.out fun b hb => hbA.block _ (Nat.lt_trans hb HZ.out))
        replace HX := Lib.hid ((hbA.block _ HZ.out).trans HX.out)
        try replace HN := Lib.hid (nums_on HN.out hbA)
        try replace HB := Lib.hid ((hbA.block _ HBl.out).trans HB.out)
        try replace HBl := Lib.hid (Nat.lt_of_lt_of_le HBl.out hbA.size)
        obtain ⟨mo, mc, rfl, _, _⟩ := hn.form
        obtain ⟨mn, hmn⟩ : ∃ k, M.list.length = k := ⟨_, rfl⟩
        rw [hmn] at hn
        rw [hmn]
        have HO := Lib.hid (lens_ok (made_in (w := wA) hok (hn.keep fun b hb => ⟨hb.2, rfl⟩)))
        first
          | have HN := Lib.hid (NumsIn.keep (q := fun b => (b ≠ w.heap.size ∧ b ≠ B) ∧ b < wA.heap.size) hn fun b hb => ⟨⟨⟨by have := HZ.out; have := hb.1; omega, by have := HBs.out; have := hb.1; omega⟩, hb.2⟩, rfl⟩)
          | have HN := Lib.hid (NumsIn.keep (q := fun b => (b ≠ w.heap.size ∧ True) ∧ b < wA.heap.size) hn fun b hb => ⟨⟨⟨by have := HZ.out; have := hb.1; omega, trivial⟩, hb.2⟩, rfl⟩)
        clear hmn hn hok
        try clear HBs
        replace HZ := Lib.hid (Nat.lt_of_lt_of_le HZ.out hbA.size)
        replace HL := Lib.hid (msg_next HL.out hbA)
        clear hbA
        generalize wA = W1 at *
        try unfold msgV strV
        refine hK.out _ _ (trivial) (fun hHeld => ?_)
        clear hK K
        try simp only [Act.put, List.getElem_toArray, List.getElem_cons_succ, List.getElem_cons_zero, List.setIfInBounds_toArray, List.set_cons_zero, List.set_cons_succ]
        refine wpAnyH_ready (rs := [3]) (by kernel_rfl) (by simp) ?_
        refine AllReadyH.cons rfl (fun K hK => ?_) AllReadyH.nil
        go_simp
        refine (HS.out _ m _ _ (hp.out _ HL.out) (HH.out _ HL.out)).mono ?_
        rintro e wA ⟨u, rfl, hu, hbA⟩
        try replace HU := Lib.hid (nums_low HU.out fun b hb => hbA.block _ (Nat.lt_trans hb HZ.out))
        replace HX := Lib.hid ((hbA.block _ HZ.out).trans HX.out)
        try replace HN := Lib.hid (nums_on HN.out hbA)
        try replace HB := Lib.hid ((hbA.block _ HBl.out).trans HB.out)
        try replace HBl := Lib.hid (Nat.lt_of_lt_of_le HBl.out hbA.size)
        obtain ⟨vs, rfl, hvs⟩ := hu.val
        have HP := Lib.hid (lens_ok hu)
        clear hu HS HH hp
        generalize smallM m = R at *
        obtain ⟨so, sc, rfl, _, _⟩ := hvs.form
        obtain ⟨sn, hsn⟩ : ∃ k, R.list.length = k := ⟨_, rfl⟩
        rw [hsn] at hvs
        rw [hsn]
        have HU := Lib.hid hvs
        clear hsn hvs
        replace HZ := Lib.hid (Nat.lt_of_lt_of_le HZ.out hbA.size)
        replace HL := Lib.hid (msg_next HL.out hbA)
        clear hbA
        generalize wA = W1 at *
        try unfold msgV strV
        refine hK.out _ _ (trivial) (fun hHeld => ?_)
        clear hK K
        try simp only [Act.put, List.getElem_toArray, List.getElem_cons_succ, List.getElem_cons_zero, List.setIfInBounds_toArray, List.set_cons_zero, List.set_cons_succ]
        refine wpAnyH_ready (rs := [5]) (by kernel_rfl) (by simp) ?_
        refine AllReadyH.cons rfl (fun K hK => ?_) AllReadyH.nil
        obtain ⟨n0, n1_, n2, n3, n4, n5, n6, n7, n8, n9, n10, n11, n12⟩ := NoAt.of HB.out
        have fr := NoAt.free HB.out
        go_simp
        obtain ⟨W9, hW9, hbox, hk, hbw⟩ := msg_stored M (.slice mo mn mc) HB.out
        rw [← hW9]
        have h9 := (hbw 0 (Nat.zero_le _)).size
        replace HU := Lib.hid (nums_low HU.out fun b hb => hk b (by have := HBo.out; omega))
        replace HX := Lib.hid ((hk _ (by have := HBo.out; omega)).trans HX.out)
        replace HN := Lib.hid (NumsIn.keep (q := fun b => (b ≠ w.heap.size ∧ b ≠ B) ∧ b < W9.heap.size) HN.out fun b hb => ⟨⟨hb.1, Nat.lt_of_lt_of_le hb.2 h9⟩, hk b hb.1.2⟩)
        replace HB := Lib.hid hbox
        replace HBl := Lib.hid (Nat.lt_of_lt_of_le HBl.out h9)
        replace HL := Lib.hid (HL.out.trans (hbw _ (Nat.le_of_lt HBo.out)))
        replace HZ := Lib.hid (Nat.lt_of_lt_of_le HZ.out h9)
        clear hW9 hbox hk hbw h9 n0 n1_ n2 n3 n4 n5 n6 n7 n8 n9 n10 n11 n12 fr
        generalize W9 = W1 at *
        refine hK.out _ _ (trivial) (fun hHeld => ?_)
        clear hK K
        try simp only [Act.put, List.getElem_toArray, List.getElem_cons_succ, List.getElem_cons_zero, List.setIfInBounds_toArray, List.set_cons_zero, List.set_cons_succ]
        refine wpAnyH_ready (rs := [6]) (by kernel_rfl) (by simp) ?_
        refine AllReadyH.cons rfl (fun K hK => ?_) AllReadyH.nil
        obtain ⟨c0, c1, c2, c3, c4, c5, c6, c7, c8, c9, c10, c11, c12⟩ := MsgAt.of HX.out
        try unfold strV at c7 c8 c12
        have fr : ∀ j : Nat, W1.frozen? ⟨w.heap.size, j, none⟩ = false := fun j => by simp [World.frozen?, HX.out]
        have g0 := fr 0
        have g1 := fr 1
        have g2 := fr 2
        have g3 := fr 3
        have g4 := fr 4
        have g5 := fr 5
        have g6 := fr 6
        have g7 := fr 7
        have g8 := fr 8
        have g9 := fr 9
        have g10 := fr 10
        have g11 := fr 11
        have g12 := fr 12
        clear fr
        go_simp
        obtain ⟨W9, hW9, hbox, hk, hbw⟩ := msg_over m (.slice lo nn lc) R (.slice so sn sc) HX.out
        rw [← hW9]
        have h9 := (hbw 0 (Nat.zero_le _)).size
        have HT := Lib.hid (show TwoAt w W9 B M R (.slice mo mn mc) (.slice so sn sc) from ⟨hbox, (hk _ (by have := HBo.out; omega)).trans HB.out, HN.out.keep fun b hb => ⟨⟨hb.1.2, Nat.lt_of_lt_of_le hb.2 h9⟩, hk b hb.1.1⟩, HU.out.keep fun b hb => (show (b ≠ B ∧ b < W9.heap.size) ∧ W9.heap[b]? = W1.heap[b]? from by have hb1 : b < w.heap.size := hb; have := HBo.out; have := HZ.out; exact ⟨⟨by omega, by omega⟩, hk b (by omega)⟩), HO.out, HP.out, HL.out.trans (hbw _ (Nat.le_refl _)), HBo.out⟩)
        clear hW9 hbox hk hbw h9 c0 c1 c2 c3 c4 c5 c6 c7 c8 c9 c10 c11 c12 g0 g1 g2 g3 g4 g5 g6 g7 g8 g9 g10 g11 g12 HU HX HN HB HBl HL HZ HBo HO HP
        generalize W9 = W1 at *
        refine hK.out _ _ (trivial) (fun hHeld => ?_)
        clear hK K
        try simp only [Act.put, List.getElem_toArray, List.getElem_cons_succ, List.getElem_cons_zero, List.setIfInBounds_toArray, List.set_cons_zero, List.set_cons_succ]
        refine wpAnyH_done (by kernel_rfl) ?_ _
        refine NoPanic.normal ?_
        clear hHeld
        go_wp2_with fail
        go_meet
        case rel => exact ⟨rfl, B, M, R, _, _, rfl, HT⟩
  case rest =>
    obtain ⟨rfl, B, M, R, vl, vr, rfl, HT⟩ := hcut
    clear HM HS HH hp HX HL HZ H1
    obtain ⟨ro, rc, rfl, _, _⟩ := HT.out.numR.form
    obtain ⟨rn, hrn⟩ : ∃ k, R.list.length = k := ⟨_, rfl⟩
    rw [hrn] at HT
    clear hrn
    have ht := Lib.hid (show 0 ≤ q % 13 ∧ q % 13 < 13 from by omega)
    go_wp2_with fail
    refine (HW.out _).mono ?_
    rintro e w2 ⟨rfl, rfl⟩
    generalize q % 13 = k at *
    go_upto_block 0 with fail
    go_cut [7] (fun s7 wx => s7 = .pointer (some ⟨B, 0, none⟩) ∧ ∃ (M1 : Msg) (vl1 : Value), Hid (BoxM wx B M1 vl1) ∧ Hid (Below w.heap.size w wx))
    case first =>
      obtain ⟨e0, e1⟩ := HT.out.cells
      obtain ⟨c0, c1, c2, c3, c4, c5, c6, c7, c8, c9, c10, c11, c12⟩ := e0
      obtain ⟨d0, d1, d2, d3, d4, d5, d6, d7, d8, d9, d10, d11, d12⟩ := e1
      try unfold strV at *
      have hk : k = 0 ∨ k = 1 ∨ k = 2 ∨ k = 3 ∨ k = 4 ∨ k = 5 ∨ k = 6 ∨ k = 7 ∨ k = 8 ∨ k = 9 ∨ k = 10 ∨ k = 11 ∨ k = 12 := by have := ht.out; omega
      rcases hk with rfl | rfl | rfl | rfl | rfl | rfl | rfl | rfl | rfl | rfl | rfl | rfl | rfl
      · have HT9 := Lib.hid (HT.out.put 0 (.int .i64 R.kind) (M1 := { M with kind := R.kind }) (vl1 := vl) rfl HT.out.numM ⟨HT.out.lenM.1, HT.out.lenM.2.1, HT.out.lenM.2.2⟩)
        have g0 := HT.out.free 0
        clear HT ht
        go_wp2_with fail
        go_meet
        case rel => exact ⟨rfl, _, _, Lib.hid HT9.out.1, Lib.hid HT9.out.2⟩
      · have HT9 := Lib.hid (HT.out.put 1 (.int .i64 R.frm) (M1 := { M with frm := R.frm }) (vl1 := vl) rfl HT.out.numM ⟨HT.out.lenM.1, HT.out.lenM.2.1, HT.out.lenM.2.2⟩)
        have g0 := HT.out.free 1
        clear HT ht
        go_wp2_with fail
        go_meet
        case rel => exact ⟨rfl, _, _, Lib.hid HT9.out.1, Lib.hid HT9.out.2⟩
      · have HT9 := Lib.hid (HT.out.put 2 (.int .i64 R.to_) (M1 := { M with to_ := R.to_ }) (vl1 := vl) rfl HT.out.numM ⟨HT.out.lenM.1, HT.out.lenM.2.1, HT.out.lenM.2.2⟩)
        have g0 := HT.out.free 2
        clear HT ht
        go_wp2_with fail
        go_meet
        case rel => exact ⟨rfl, _, _, Lib.hid HT9.out.1, Lib.hid HT9.out.2⟩
      · have HT9 := Lib.hid (HT.out.put 3 (.int .i64 R.num) (M1 := { M with num := R.num }) (vl1 := vl) rfl HT.out.numM ⟨HT.out.lenM.1, HT.out.lenM.2.1, HT.out.lenM.2.2⟩)
        have g0 := HT.out.free 3
        clear HT ht
        go_wp2_with fail
        go_meet
        case rel => exact ⟨rfl, _, _, Lib.hid HT9.out.1, Lib.hid HT9.out.2⟩
      · have HT9 := Lib.hid (HT.out.put 4 (.int .i64 R.day) (M1 := { M with day := R.day }) (vl1 := vl) rfl HT.out.numM ⟨HT.out.lenM.1, HT.out.lenM.2.1, HT.out.lenM.2.2⟩)
        have g0 := HT.out.free 4
        clear HT ht
        go_wp2_with fail
        go_meet
        case rel => exact ⟨rfl, _, _, Lib.hid HT9.out.1, Lib.hid HT9.out.2⟩
      · have HT9 := Lib.hid (HT.out.put 5 (.int .i64 R.lot) (M1 := { M with lot := R.lot }) (vl1 := vl) rfl HT.out.numM ⟨HT.out.lenM.1, HT.out.lenM.2.1, HT.out.lenM.2.2⟩)
        have g0 := HT.out.free 5
        clear HT ht
        go_wp2_with fail
        go_meet
        case rel => exact ⟨rfl, _, _, Lib.hid HT9.out.1, Lib.hid HT9.out.2⟩
      · have HT9 := Lib.hid (HT.out.put 6 (.int .i64 R.other) (M1 := { M with other := R.other }) (vl1 := vl) rfl HT.out.numM ⟨HT.out.lenM.1, HT.out.lenM.2.1, HT.out.lenM.2.2⟩)
        have g0 := HT.out.free 6
        clear HT ht
        go_wp2_with fail
        go_meet
        case rel => exact ⟨rfl, _, _, Lib.hid HT9.out.1, Lib.hid HT9.out.2⟩
      · have HT9 := Lib.hid (HT.out.put 7 (.string ⟨R.code.toArray⟩) (M1 := { M with code := R.code }) (vl1 := vl) rfl HT.out.numM ⟨HT.out.lenR.1, HT.out.lenM.2.1, HT.out.lenM.2.2⟩)
        have g0 := HT.out.free 7
        clear HT ht
        go_wp2_with fail
        go_meet
        case rel => exact ⟨rfl, _, _, Lib.hid HT9.out.1, Lib.hid HT9.out.2⟩
      · have HT9 := Lib.hid (HT.out.put 8 (.string ⟨R.ctry.toArray⟩) (M1 := { M with ctry := R.ctry }) (vl1 := vl) rfl HT.out.numM ⟨HT.out.lenM.1, HT.out.lenR.2.1, HT.out.lenM.2.2⟩)
        have g0 := HT.out.free 8
        clear HT ht
        go_wp2_with fail
        go_meet
        case rel => exact ⟨rfl, _, _, Lib.hid HT9.out.1, Lib.hid HT9.out.2⟩
      · have HT9 := Lib.hid (HT.out.put 9 (.int .i64 R.qty) (M1 := { M with qty := R.qty }) (vl1 := vl) rfl HT.out.numM ⟨HT.out.lenM.1, HT.out.lenM.2.1, HT.out.lenM.2.2⟩)
        have g0 := HT.out.free 9
        clear HT ht
        go_wp2_with fail
        go_meet
        case rel => exact ⟨rfl, _, _, Lib.hid HT9.out.1, Lib.hid HT9.out.2⟩
      · have HT9 := Lib.hid (HT.out.put 10 (.int .i64 R.amt) (M1 := { M with amt := R.amt }) (vl1 := vl) rfl HT.out.numM ⟨HT.out.lenM.1, HT.out.lenM.2.1, HT.out.lenM.2.2⟩)
        have g0 := HT.out.free 10
        clear HT ht
        go_wp2_with fail
        go_meet
        case rel => exact ⟨rfl, _, _, Lib.hid HT9.out.1, Lib.hid HT9.out.2⟩
      · have HT9 := Lib.hid (HT.out.put 11 (.slice ro rn rc) (M1 := { M with list := R.list }) (vl1 := .slice ro rn rc) rfl HT.out.numR ⟨HT.out.lenM.1, HT.out.lenM.2.1, HT.out.lenM.2.2⟩)
        have g0 := HT.out.free 11
        clear HT ht
        go_wp2_with fail
        go_meet
        case rel => exact ⟨rfl, _, _, Lib.hid HT9.out.1, Lib.hid HT9.out.2⟩
      · have HT9 := Lib.hid (HT.out.put 12 (.string ⟨R.text.toArray⟩) (M1 := { M with text := R.text }) (vl1 := vl) rfl HT.out.numM ⟨HT.out.lenM.1, HT.out.lenM.2.1, HT.out.lenR.2.2⟩)
        have g0 := HT.out.free 12
        clear HT ht
        go_wp2_with fail
        go_meet
        case rel => exact ⟨rfl, _, _, Lib.hid HT9.out.1, Lib.hid HT9.out.2⟩
    case rest =>
      obtain ⟨rfl, M1, vl1, HB, HL⟩ := hcut
      clear HT ht HW
      obtain ⟨v9, e9, hn9⟩ := HB.out.inn.val
      obtain ⟨bo, bc, h9, _, _⟩ := hn9.form
      have e8 : vl1 = v9 := by
        unfold msgV at e9
        simpa using e9
      clear e9 hn9
      subst h9 e8
      obtain ⟨bn, hbn⟩ : ∃ k, M1.list.length = k := ⟨_, rfl⟩
      rw [hbn] at HB
      clear hbn
      obtain ⟨E, hE⟩ : ∃ E, msgE M1 = E := ⟨_, rfl⟩
      obtain ⟨c0, c1, c2, c3, c4, c5, c6, c7, c8, c9, c10, c11, c12⟩ := HB.out.cells
      try unfold strV at *
      go_wp2_with fail
      have hz := HE.out M1 _ _ HB.out.inn HL.out
      rw [hE] at hz
      refine hz.mono ?_
      rintro e wA ⟨u1, rfl, _, hbA⟩
      replace HB := Lib.hid (HB.out.keep hbA)
      replace HL := Lib.hid (msg_next HL.out hbA)
      clear hz hbA HE c0 c1 c2 c3 c4 c5 c6 c7 c8 c9 c10 c11 c12
      obtain ⟨c0, c1, c2, c3, c4, c5, c6, c7, c8, c9, c10, c11, c12⟩ := HB.out.cells
      try unfold strV at *
      go_wp2_with fail
      have hz := HG.out M1 _ _ HB.out.inn HL.out
      rw [hE] at hz
      refine hz.mono ?_
      rintro e wB ⟨u2, rfl, _, hbA⟩
      replace HB := Lib.hid (HB.out.keep hbA)
      replace HL := Lib.hid (msg_next HL.out hbA)
      clear hz hbA HG c0 c1 c2 c3 c4 c5 c6 c7 c8 c9 c10 c11 c12
      obtain ⟨c0, c1, c2, c3, c4, c5, c6, c7, c8, c9, c10, c11, c12⟩ := HB.out.cells
      try unfold strV at *
      go_wp2_with fail
      have hz := HR.out M1 _ _ HB.out.inn
      rw [hE] at hz
      refine hz.mono ?_
      rintro e wC ⟨rfl, hbA⟩
      replace HB := Lib.hid (HB.out.keep hbA)
      replace HL := Lib.hid (msg_next HL.out hbA)
      clear hz hbA HR c0 c1 c2 c3 c4 c5 c6 c7 c8 c9 c10 c11 c12
      obtain ⟨c0, c1, c2, c3, c4, c5, c6, c7, c8, c9, c10, c11, c12⟩ := HB.out.cells
      try unfold strV at *
      go_wp2_with fail
      have hz := HV.out M1 _ _ HB.out.inn
      rw [hE] at hz
      refine hz.mono ?_
      rintro e wD ⟨rfl, hbA⟩
      replace HL := Lib.hid (msg_next HL.out hbA)
      clear hz hbA HV HB c0 c1 c2 c3 c4 c5 c6 c7 c8 c9 c10 c11 c12
      go_wp2_with fail
      refine (HA.out _ HL.out).mono ?_
      rintro e wE ⟨rfl, hbA⟩
      go_wp2_with fail
      go_ret
      exact ⟨rfl, msg_next HL.out hbA⟩
end Go.Proofs.YtepkihoakagidaaDoor
