/- A message, a segment, a list of lists of numbers among a law's arguments: their cells are known. No condition.
The making of a segment of numbers: what lies in memory while it runs. No condition.
A list of numbers just made, in memory. No condition.
What the landed span, isCode, isCountry and Validate of package message return: the error of a message. Condition: the message's cells are known.
What the landed isDigit, isLetter, isTag, isWithinLimits, hasEmptyEnd and Validate of package segment return: the error of a segment. Condition: the segment's cells are known.
What Checksum of the reference of layer 7 returns. Condition: the bytes' cells are known, and there are not too many.
What the landed Checksum of package message returns. Condition: the bytes' cells are known.
Plain facts on interchanges: a packed one with a single byte changed is no packed one with the same head. No program in this text. No condition.
Plain facts on interchanges: what Unpack returns, and that a packed one is unpacked. No program in this text. No condition.
SameSegments of the reference of layer 6 tells whether two lists of segments are equal. Condition: the cells are known.
Same of the reference of layer 3 tells whether two lists of numbers are equal. Condition: the cells are known.
What Encode of the reference of layer 6 returns: the encodings of segments, or the error of the first that has one. Condition: the segments' cells are known, and there are not too many.
append onto a row of the call's own, of a list that may be nil; bytes of a row of the call's own, written over; the first bytes of some (split off XSegConc and XSegChg). No condition.
What the landed element, component, numberOf, number and numbers of package message return. Condition: the cells are known, the texts are not too long, the library's variables lie as they were laid. -/
import Derived.Test.YtepkihoakagidaaDoorG2
import Derived.Test.YtepkihoakagidaaDoorZMsgVal
import Derived.Handy
import Derived.Deep.RegionHeld3
import Derived.Deep.CutBlock
import Derived.Deep.DeepCutAuto
import Derived.Test.YtepkihoakagidaaDoorG1
import Derived.Deep.QuietTactic
import Derived.BigQuiet
import Derived.Deep.Draws
import Derived.Laws.OwnMore
namespace Go.Proofs.YtepkihoakagidaaDoor
open Go.RowKit Go.WideShapes Go.ChangeShapes Go.Deep

section
variable {H : Type} {enc : TypeId × Value → H} {P : Program}
theorem nums_of_trod {w : World} {sp : Nat → Bool} {held : Bool} {t e : TypeId} {fuel : Nat} {v : Value} {x : DataW H × List MemPlace} (ht : P.underlying t = some (.slice e)) (he : P.underlying e = some (.int .i64)) (hc : P.cellsOf e = 1)
    (h : DataW.trod enc P w 0 sp held fuel t [v] = some x) : ∃ l : List Int, NumsIn (Has_ w) w v l := by
  rcases open_ints ht he hc h with ⟨h1, _⟩ | ⟨a, len, cap, zs, h1, _, h2, h3, h4, _, h5, h6⟩
  · obtain rfl := List.head_eq_of_cons_eq h1
    exact ⟨[], rfl, .inl ⟨rfl, rfl⟩⟩
  · obtain rfl := List.head_eq_of_cons_eq h1
    have hz : len ≤ zs.length := by rw [h4]; split <;> omega
    refine ⟨(List.range len).map fun i => zs.getD i 0, by simp, .inr ⟨a, cap, by simp, by simpa using h2, h3, fun h0 => ?_, fun j u hj => ?_⟩⟩
    · exact World.block_lt_of_cell? w _ (h5 0 (by simp at h0; omega))
    · rw [List.map_map] at hj
      obtain ⟨hj1, rfl⟩ := range_map _ len j u hj
      exact h5 j (by omega)
end
/-- Is a type one of numbers? of lists of numbers? -/
def intTy (P : Program) (t : TypeId) : Bool := match P.underlying t with | some (.int .i64) => true | _ => false
theorem intTy_iff {P : Program} {t : TypeId} (h : intTy P t = true) : P.underlying t = some (.int .i64) := by
  unfold intTy at h
  split at h
  · assumption
  · cases h
def numsTy (P : Program) (t : TypeId) : Bool := match P.underlying t with | some (.slice e) => intTy P e && (P.cellsOf e == 1) | _ => false
theorem numsTy_iff {P : Program} {t : TypeId} (h : numsTy P t = true) : ∃ e, P.underlying t = some (.slice e) ∧ P.underlying e = some (.int .i64) ∧ P.cellsOf e = 1 := by
  unfold numsTy at h
  split at h
  · rename_i e h1
    simp only [Bool.and_eq_true, beq_iff_eq] at h
    exact ⟨e, h1, intTy_iff h.1, h.2⟩
  · cases h
def cellAt (P : Program) (f : Field) (i : Nat) : Bool := f.offset == i && P.cellsOf f.type == 1
theorem cellAt_iff {P : Program} {f : Field} {i : Nat} (h : cellAt P f i = true) : f.offset = i ∧ P.cellsOf f.type = 1 := by
  unfold cellAt at h
  simp only [Bool.and_eq_true, beq_iff_eq] at h
  exact h
/-- Is a type a struct as messages are? -/
def msgTy (P : Program) (t : TypeId) : Bool := match P.underlying t with
  | some (.struct ⟨[f0, f1, f2, f3, f4, f5, f6, f7, f8, f9, f10, f11, f12]⟩) => (P.cellsOf t == 13) && ((cellAt P f0 0 && intTy P f0.type) && ((cellAt P f1 1 && intTy P f1.type) && ((cellAt P f2 2 && intTy P f2.type) && ((cellAt P f3 3 && intTy P f3.type) && ((cellAt P f4 4 && intTy P f4.type) && ((cellAt P f5 5 && intTy P f5.type) && ((cellAt P f6 6 && intTy P f6.type) && ((cellAt P f7 7 && textTy P f7.type) && ((cellAt P f8 8 && textTy P f8.type) && ((cellAt P f9 9 && intTy P f9.type) && ((cellAt P f10 10 && intTy P f10.type) && ((cellAt P f11 11 && numsTy P f11.type) && (cellAt P f12 12 && textTy P f12.type)))))))))))))
  | _ => false
theorem message_fields : msgTy Tryd.prog 24 = true := by kernel_rfl
theorem one_int {H : Type} {enc : TypeId × Value → H} {P : Program} {w : World} {sp : Nat → Bool} {held : Bool} {fuel : Nat} {t : TypeId} {v : Value} {y : DataW H × List MemPlace} (ht : intTy P t = true) (h : DataW.trod enc P w 0 sp held fuel t [v] = some y) : ∃ z : Int, v = .int .i64 z := by
  obtain ⟨z, z0, _⟩ := DataW.trod_int (intTy_iff ht) h
  exact ⟨z, List.head_eq_of_cons_eq z0⟩
theorem one_text {H : Type} {enc : TypeId × Value → H} {P : Program} {w : World} {sp : Nat → Bool} {held : Bool} {fuel : Nat} {t : TypeId} {v : Value} {y : DataW H × List MemPlace} (ht : textTy P t = true) (h : DataW.trod enc P w 0 sp held fuel t [v] = some y) : ∃ l : List UInt8, v = strV l ∧ l.length ≤ maxLen := by
  obtain ⟨s, z0, _, z1⟩ := DataW.trod_string (textTy_iff ht) h
  exact ⟨s.data.toList, List.head_eq_of_cons_eq z0, by simpa using z1⟩
set_option maxRecDepth 100000 in
/-- A message among a law's arguments. -/
theorem open_msg {H : Type} {enc : TypeId × Value → H} {r : Reach} {b0 : Nat} {w : World} {sp : Nat → Bool} {held : Bool} {v : Value} {d : DataW H} {ps : List MemPlace} (hval : Value.okWide Tryd.prog w r b0 24 v) (hd : DataW.Trod enc Tryd.prog w 0 sp held 24 v d ps) :
    ∃ m : Msg, MsgIn (Has_ w) w v m := by
  have hty := message_fields
  unfold msgTy at hty
  split at hty
  · rename_i f0 f1 f2 f3 f4 f5 f6 f7 f8 f9 f10 f11 f12 he
    simp only [Bool.and_eq_true, beq_iff_eq] at hty
    obtain ⟨ce, ⟨a0, t0⟩, ⟨a1, t1⟩, ⟨a2, t2⟩, ⟨a3, t3⟩, ⟨a4, t4⟩, ⟨a5, t5⟩, ⟨a6, t6⟩, ⟨a7, t7⟩, ⟨a8, t8⟩, ⟨a9, t9⟩, ⟨a10, t10⟩, ⟨a11, t11⟩, a12, t12⟩ := hty
    obtain ⟨cs, rfl, hsz⟩ := okWide_struct he hval
    obtain ⟨fuel, hf⟩ := hd
    obtain ⟨xs, n, _, _, _, hlen, hx⟩ := DataW.trod_struct he hf
    obtain ⟨l⟩ := cs
    have hl : l.length = 13 := hsz.trans ce
    match l, hl, xs, hlen with
    | [v0, v1, v2, v3, v4, v5, v6, v7, v8, v9, v10, v11, v12], _, [y0, y1, y2, y3, y4, y5, y6, y7, y8, y9, y10, y11, y12], _ =>
      have k0 := hx 0 f0 rfl
      have k1 := hx 1 f1 rfl
      have k2 := hx 2 f2 rfl
      have k3 := hx 3 f3 rfl
      have k4 := hx 4 f4 rfl
      have k5 := hx 5 f5 rfl
      have k6 := hx 6 f6 rfl
      have k7 := hx 7 f7 rfl
      have k8 := hx 8 f8 rfl
      have k9 := hx 9 f9 rfl
      have k10 := hx 10 f10 rfl
      have k11 := hx 11 f11 rfl
      have k12 := hx 12 f12 rfl
      rw [(cellAt_iff a0).1, (cellAt_iff a0).2] at k0
      rw [(cellAt_iff a1).1, (cellAt_iff a1).2] at k1
      rw [(cellAt_iff a2).1, (cellAt_iff a2).2] at k2
      rw [(cellAt_iff a3).1, (cellAt_iff a3).2] at k3
      rw [(cellAt_iff a4).1, (cellAt_iff a4).2] at k4
      rw [(cellAt_iff a5).1, (cellAt_iff a5).2] at k5
      rw [(cellAt_iff a6).1, (cellAt_iff a6).2] at k6
      rw [(cellAt_iff a7).1, (cellAt_iff a7).2] at k7
      rw [(cellAt_iff a8).1, (cellAt_iff a8).2] at k8
      rw [(cellAt_iff a9).1, (cellAt_iff a9).2] at k9
      rw [(cellAt_iff a10).1, (cellAt_iff a10).2] at k10
      rw [(cellAt_iff a11).1, (cellAt_iff a11).2] at k11
      rw [(cellAt_iff a12).1, (cellAt_iff a12).2] at k12
      obtain ⟨z0, rfl⟩ := one_int t0 k0
      obtain ⟨z1, rfl⟩ := one_int t1 k1
      obtain ⟨z2, rfl⟩ := one_int t2 k2
      obtain ⟨z3, rfl⟩ := one_int t3 k3
      obtain ⟨z4, rfl⟩ := one_int t4 k4
      obtain ⟨z5, rfl⟩ := one_int t5 k5
      obtain ⟨z6, rfl⟩ := one_int t6 k6
      obtain ⟨s7, rfl, l7⟩ := one_text t7 k7
      obtain ⟨s8, rfl, l8⟩ := one_text t8 k8
      obtain ⟨z9, rfl⟩ := one_int t9 k9
      obtain ⟨z10, rfl⟩ := one_int t10 k10
      obtain ⟨e, u1, u2, u3⟩ := numsTy_iff t11
      obtain ⟨nl, hn⟩ := nums_of_trod u1 u2 u3 k11
      obtain ⟨s12, rfl, l12⟩ := one_text t12 k12
      exact ⟨⟨z0, z1, z2, z3, z4, z5, z6, s7, s8, z9, z10, nl, s12⟩, ⟨v11, rfl, hn⟩, l7, l8, l12⟩
  · cases hty
end Go.Proofs.YtepkihoakagidaaDoor
namespace Go.Proofs.YtepkihoakagidaaDoor
open Go.RowKit

/-- Blocks of texts. -/
def StrB (w : World) (b : Nat) : Prop := ∃ cs fz, w.heap[b]? = some (.cells cs 9 fz)
theorem StrB.turn {w w1 : World} {b : Nat} {t : TypeId} (h : StrB w b) (ht : TurnsTy t w w1) (hne : 9 ≠ t) : StrB w1 b ∧ w1.heap[b]? = w.heap[b]? := by
  obtain ⟨cs, fz, h1⟩ := h
  have e := ht.block b cs _ fz h1 hne
  exact ⟨⟨cs, fz, e.trans h1⟩, e⟩
theorem StrB.later {w w1 : World} {b : Nat} (h : StrB w b) (hb : Below w.heap.size w w1) : StrB w1 b ∧ w1.heap[b]? = w.heap[b]? := by
  obtain ⟨cs, fz, h1⟩ := h
  have e := hb.block b (Array.getElem?_eq_some_iff.1 h1).1
  exact ⟨⟨cs, fz, e.trans h1⟩, e⟩
structure RowAt (w wx : World) (tag : List UInt8) (vE : Value) (us : List Value) (L : List (List (List UInt8))) : Prop where
  below : Below w.heap.size w wx
  res : wx.heap[w.heap.size]? = some (.cells #[strV [], .slice none 0 0] 49 (0, 0))
  box : wx.heap[w.heap.size + 1]? = some (.cells #[strV tag, vE] 49 (0, 0))
  row : wx.ownsRow (w.heap.size + 1) 50 1 vE L.length us
  fin : ∀ (i : Nat) (e : List (List UInt8)), L[i]? = some e → ∃ u, us[i]? = some u ∧ StrsIn (StrB wx) wx u e
theorem RowAt.start (w : World) (tag : List UInt8) : RowAt w ((w.alloc (.cells #[strV [], .slice none 0 0] 49)).alloc (.cells #[strV tag, .slice none 0 0] 49)) tag (.slice none 0 0) [] [] := by
  have hb := (Below.refl w.heap.size w).alloc (Nat.le_refl _) (.cells #[strV [], .slice none 0 0] 49)
  refine ⟨hb.alloc hb.size _, ?_, ?_, World.ownsRow_nil _ _ _ _, fun i e hi => by simp at hi⟩
  · show ((w.heap.push _).push _)[w.heap.size]? = _
    simp [Array.getElem?_push]
  · show ((w.heap.push _).push _)[w.heap.size + 1]? = _
    rw [Array.getElem?_push, if_pos (by simp)]
theorem own_keep {w w1 : World} {base : Nat} {e : TypeId} {size : Nat} {v : Value} {n : Nat} {xs : List Value} (h : w.ownsRow base e size v n xs) (hb : Below w.heap.size w w1) : w1.ownsRow base e size v n xs := by
  refine ⟨h.1, ?_⟩
  rcases h.2 with h2 | ⟨g, cap, cur, rfl, h3, hg, rest⟩
  · exact .inl h2
  · exact .inr ⟨g, cap, cur, rfl, h3, (hb.block g (Array.getElem?_eq_some_iff.1 hg).1).trans hg, rest⟩
theorem RowAt.later {w wx w1 : World} {tag : List UInt8} {vE : Value} {us : List Value} {L : List (List (List UInt8))} (h : RowAt w wx tag vE us L) (hb : Below wx.heap.size wx w1) : RowAt w w1 tag vE us L :=
  ⟨h.below.trans (hb.mono h.below.size), (hb.block _ (Array.getElem?_eq_some_iff.1 h.res).1).trans h.res, (hb.block _ (Array.getElem?_eq_some_iff.1 h.box).1).trans h.box, own_keep h.row hb, fun i e hi => by
    obtain ⟨u, h3, h4⟩ := h.fin i e hi
    exact ⟨u, h3, h4.keep fun _ hh => hh.later hb⟩⟩
theorem RowAt.cells {w wx : World} {tag : List UInt8} {vE : Value} {us : List Value} {L : List (List (List UInt8))} (h : RowAt w wx tag vE us L) :
    (wx.cell? ⟨w.heap.size + 1, 0, none⟩ = some (strV tag) ∧ wx.frozen? ⟨w.heap.size + 1, 0, none⟩ = false) ∧ (wx.cell? ⟨w.heap.size + 1, 1, none⟩ = some vE ∧ wx.frozen? ⟨w.heap.size + 1, 1, none⟩ = false) ∧
    (wx.cell? ⟨w.heap.size, 0, none⟩ = some (strV []) ∧ wx.frozen? ⟨w.heap.size, 0, none⟩ = false) ∧ (wx.cell? ⟨w.heap.size, 1, none⟩ = some (.slice none 0 0) ∧ wx.frozen? ⟨w.heap.size, 1, none⟩ = false) := by
  have h1 := h.box
  have h2 := h.res
  refine ⟨⟨?_, ?_⟩, ⟨?_, ?_⟩, ⟨?_, ?_⟩, ?_, ?_⟩ <;> simp [World.cell?, World.frozen?, h1, h2]
theorem RowAt.kept {w wx w1 : World} {tag : List UInt8} {vE : Value} {us : List Value} {L : List (List (List UInt8))} (h : RowAt w wx tag vE us L) (hg : wx.grownBy w1 vE.ownBlock) :
    w1.cell? ⟨w.heap.size + 1, 1, none⟩ = some vE ∧ w1.frozen? ⟨w.heap.size + 1, 1, none⟩ = false := by
  have e := (TurnsTy.of_grown hg (own_ty h.row)).block _ _ _ _ h.box (by decide)
  obtain ⟨_, ⟨e1, e2⟩, _⟩ := h.cells
  exact ⟨(World.cell?_of_block (a := ⟨w.heap.size + 1, 1, none⟩) e).trans e1, (World.frozen?_of_block (a := ⟨w.heap.size + 1, 1, none⟩) e).trans e2⟩
theorem RowAt.push {w wx w1 : World} {tag : List UInt8} {vE v1 ve : Value} {us : List Value} {L : List (List (List UInt8))} {cur : List (List UInt8)} (h : RowAt w wx tag vE us L)
    (he : StrsIn (StrB wx) wx ve cur) (hr : w1.ownsRow (w.heap.size + 1) 50 1 v1 (L.length + 1) (us ++ [ve])) (hg : wx.grownBy w1 vE.ownBlock) : RowAt w (w1.setCell ⟨w.heap.size + 1, 1, none⟩ v1) tag v1 (us ++ [ve]) (L ++ [cur]) := by
  have ht := TurnsTy.of_grown hg (own_ty h.row)
  have hbox1 := (ht.block _ _ _ _ h.box (by decide)).trans h.box
  have hres1 := (ht.block _ _ _ _ h.res (by decide)).trans h.res
  have ht2 := TurnsTy.of_set (i := 1) hbox1 v1
  have hst := setCell_eq_setRow w1 (w.heap.size + 1) 1 _ _ _ v1 hbox1
  have hlen : us.length = L.length := by have := h.row.1; omega
  have hrow : ∀ k, vE.ownBlock = some k → w.heap.size + 1 ≤ k := fun k hk => (h.row.lt k hk).1
  have hbl : Below w.heap.size w w1 := below_grown h.below hg fun k hk => by have := hrow k hk; omega
  have hg2 : w1.grownBy (w1.setCell ⟨w.heap.size + 1, 1, none⟩ v1) (some (w.heap.size + 1)) := ⟨rfl, rfl, rfl, by simp, fun k _ hk => heap_setCell_other w1 ⟨w.heap.size + 1, 1, none⟩ k v1 (fun e => hk (by simp [e]))⟩
  refine ⟨below_grown hbl hg2 fun k hk => by cases hk; omega, ?_, ?_, ?_, fun i e hi => ?_⟩
  · exact (heap_setCell_other w1 ⟨w.heap.size + 1, 1, none⟩ w.heap.size v1 (fun e => by simp at e)).trans hres1
  · rw [hst]
    exact setRow_heap w1 _ _ _ _ _ hbox1
  · have := ht2.own hr (by decide)
    simpa using this
  · by_cases hlt : i < L.length
    · rw [List.getElem?_append_left hlt] at hi
      obtain ⟨u, h3, h4⟩ := h.fin i e hi
      exact ⟨u, by rw [List.getElem?_append_left (by omega)]; exact h3, (h4.keep fun _ hb1 => hb1.turn ht (by decide)).keep fun _ hb1 => hb1.turn ht2 (by decide)⟩
    · have hlt2 := (List.getElem?_eq_some_iff.1 hi).1
      rw [List.length_append] at hlt2
      have h1 : ([cur] : List (List (List UInt8))).length = 1 := rfl
      obtain rfl : i = L.length := by omega
      rw [List.getElem?_append_right (Nat.le_refl _)] at hi
      simp at hi
      subst hi
      exact ⟨ve, by rw [← hlen, List.getElem?_append_right (Nat.le_refl _)]; simp, (he.keep fun _ hb1 => hb1.turn ht (by decide)).keep fun _ hb1 => hb1.turn ht2 (by decide)⟩
theorem RowAt.els {w wx : World} {tag : List UInt8} {vE : Value} {us : List Value} {L : List (List (List UInt8))} (h : RowAt w wx tag vE us L) : ElemsIn (NotSeg wx) wx vE L := by
  refine ⟨us, (CellsIn.own h.row).keep fun b hb1 => ⟨?_, rfl⟩, fun i e hi => ?_⟩
  · obtain ⟨cs, fz, hc⟩ := own_ty h.row b hb1.2.2
    exact ⟨cs, _, fz, hc, by decide⟩
  · obtain ⟨u, h3, h4⟩ := h.fin i e hi
    refine ⟨u, h3, h4.keep fun b hb1 => ⟨?_, rfl⟩⟩
    obtain ⟨cs, fz, hc⟩ := hb1
    exact ⟨cs, _, fz, hc, by decide⟩
/-- The element of a text lies in blocks of texts. -/
theorem element_in {s : List UInt8} (hs : s.length ≤ maxLen) {v : Value} {w w1 : World} (h : (s = [] ∧ v = .slice none 0 0 ∧ w1 = w) ∨ (s ≠ [] ∧ v = .slice (some ⟨w.heap.size, 0, none⟩) 1 1 ∧ w1 = w.alloc (.cells #[strV s] 9))) :
    StrsIn (StrB w1) w1 v (elS s) ∧ Below w.heap.size w w1 := by
  rcases h with ⟨rfl, rfl, rfl⟩ | ⟨hne, rfl, rfl⟩
  · exact ⟨⟨⟨rfl, .inl ⟨rfl, rfl⟩⟩, fun x hx => by simp [elS] at hx⟩, Below.refl _ _⟩
  · rw [show elS s = [s] from if_neg hne]
    refine ⟨⟨⟨rfl, .inr ⟨_, 1, rfl, Nat.le_refl _, by unfold maxLen; omega, fun _ => ⟨#[strV s], (0, 0), ?_⟩, fun j u hj => ?_⟩⟩, fun x hx => by rw [List.mem_singleton.1 hx]; exact hs⟩, (Below.refl _ _).alloc (Nat.le_refl _) _⟩
    · show (w.heap.push _)[w.heap.size]? = _
      simp
    · match j with
      | 0 =>
        simp at hj
        rw [← hj, Addr.add_lit]
        simp [go_sem]
      | j + 1 => simp at hj
end Go.Proofs.YtepkihoakagidaaDoor
namespace Go.Proofs.YtepkihoakagidaaDoor
open Go.RowKit

/-- A list of numbers just made. -/
theorem nums_new (W : World) (l : List Int) (t : TypeId) (hl : l.length ≤ 1000) : NumsIn (Has_ (W.alloc (.cells (l.map fun n => (.int .i64 n : Value)).toArray t))) (W.alloc (.cells (l.map fun n => (.int .i64 n : Value)).toArray t)) (.slice (some ⟨W.heap.size, 0, none⟩) l.length l.length) l := by
  refine ⟨by simp, .inr ⟨_, _, rfl, Nat.le_refl _, by unfold maxLen; omega, fun _ => by show W.heap.size < (W.heap.push _).size; simp, fun j u hj => ?_⟩⟩
  rw [Addr.add_lit]
  simp only [Nat.zero_add]
  show (W.alloc _).cell? _ = _
  have h1 : (W.alloc (.cells (l.map fun n => (.int .i64 n : Value)).toArray t)).heap[W.heap.size]? = some (.cells (l.map fun n => (.int .i64 n : Value)).toArray t (0, 0)) := by
    show (W.heap.push _)[W.heap.size]? = _
    simp
  unfold World.cell?
  rw [h1]
  simpa using hj
end Go.Proofs.YtepkihoakagidaaDoor
namespace Go.Proofs.YtepkihoakagidaaDoor
open Go.RowKit

def outB (lo hi n : Int) : Bool := decide (n < lo) || decide (hi < n)
theorem spanEx_any (lo hi n : Int) (w : World) : Calls Tryd.prog 57 #[.agg #[.int .i64 lo, .int .i64 hi], .int .i64 n] w fun e w' => e = .returned (.bool (outB lo hi n)) ∧ Below w.heap.size w w' := by
  unfold outB
  have hb := Lib.hid ((Below.refl w.heap.size w).alloc (Nat.le_refl _) (.cells #[.int .i64 lo, .int .i64 hi] 57))
  obtain ⟨b1, h1⟩ : ∃ b, decide (n < lo) = b := ⟨_, rfl⟩
  obtain ⟨b2, h2⟩ : ∃ b, decide (hi < n) = b := ⟨_, rfl⟩
  rw [h1, h2]
  cases b1 <;> cases b2
  all_goals
    go_enter Tryd.func57, Tryd.ntmps57
    go_wp2_with fail
    go_ret
    exact ⟨rfl, hb.out⟩
theorem any_take {l : List Int} {i : Nat} {x : Int} {p : Int → Bool} (h : l[i]? = some x) (h0 : (l.take i).any p = false) (hx : p x = false) : (l.take (i + 1)).any p = false := by
  rw [List.take_add_one, h, List.any_append, h0]
  simpa using hx
theorem any_hit {l : List Int} {i : Nat} {x : Int} {p : Int → Bool} (h : l[i]? = some x) (hx : p x = true) : l.any p = true := List.any_eq_true.2 ⟨x, List.mem_of_getElem? h, hx⟩

set_option maxRecDepth 100000 in
set_option maxHeartbeats 1600000 in
theorem idxSpan_any (lo hi : Int) (v : Value) (l : List Int) (w : World) (h : NumsIn (Has_ w) w v l) :
    Calls Tryd.prog 71 #[v, .func (.func 57) #[.agg #[.int .i64 lo, .int .i64 hi]] #[]] w fun e w' => ∃ r : Int, e = .returned (.int .i64 r) ∧ decide (0 ≤ r) = l.any (outB lo hi) ∧ Below w.heap.size w w' := by
  obtain ⟨ao, cap, rfl, hl, hc⟩ := h.form
  have hlb : l.length ≤ 9223372036854775807 := by unfold maxLen at hl; omega
  have HS := Lib.hid (fun n w => spanEx_any lo hi n w)
  have HN := Lib.hid h
  have hno := Lib.hid (show ∀ (i : Nat) (x : Int), l[i]? = some x → outB lo hi x = true → l.any (outB lo hi) = true from fun i x h1 h2 => any_hit h1 h2)
  have hyes := Lib.hid (show (l.take l.length).any (outB lo hi) = false → l.any (outB lo hi) = false from fun h => by rwa [List.take_length] at h)
  generalize hR : l.any (outB lo hi) = R at *
  clear h hc hR
  go_enter Tryd.func71, Tryd.ntmps71
  go_wp2_with fail
  go_loopw [8] (fun vi wx => ∃ i : Nat, vi = .int .i64 i ∧ i ≤ l.length ∧ Hid ((l.take i).any (outB lo hi) = false) ∧ Hid (Below w.heap.size w wx)) (fun vi _ => l.length - (intOf vi).toNat)
  case atStart => exact ⟨0, by go_num, by omega, Lib.hid rfl, Lib.hid (Below.refl _ _)⟩
  case round =>
    obtain ⟨i, rfl, hile, hA, hB⟩ := hrel
    by_cases hlt : i < l.length
    · have d1 : decide ((i : Int) < (l.length : Int)) = true := decide_eq_true (by omega)
      obtain ⟨x, hx⟩ : ∃ x, l[i]? = some x := ⟨_, List.getElem?_eq_getElem hlt⟩
      obtain ⟨_, _, hs, _, hc⟩ := (HN.out.later hB.out).form
      injection hs with hs1 hs2 hs3
      subst hs1
      obtain ⟨a, rfl, hcx⟩ := hc i x hx
      have j1 : (0 : Int) ≤ (i : Int) := by omega
      have j2 : (i : Int) < (l.length : Int) := by omega
      have HS1 := Lib.hid (HS.out x wr)
      have hnx := Lib.hid (hno.out i x hx)
      have hpx := Lib.hid (fun h => any_take hx hA.out h)
      clear hc hs2 hs3 hx hA
      cases hq : outB lo hi x with
      | true =>
        have hR := hnx.out hq
        subst hR
        rw [hq] at HS1
        clear hnx hpx hq hno hyes
        go_wp2_with fail
        refine HS1.out.mono ?_
        rintro e w1 ⟨rfl, hb⟩
        have hb2 := Lib.hid (hB.out.trans (hb.mono hB.out.size))
        clear hb
        go_wp2_with fail
        go_ret
        exact ⟨_, rfl, by simp, hb2.out⟩
      | false =>
        have hp := Lib.hid (hpx.out hq)
        rw [hq] at HS1
        clear hnx hpx hq
        go_wp2_with fail
        refine HS1.out.mono ?_
        rintro e w1 ⟨rfl, hb⟩
        have hb2 := Lib.hid (hB.out.trans (hb.mono hB.out.size))
        clear hb
        go_wp2_with fail
        go_roundw
        case rel => exact ⟨i + 1, by go_num, by omega, hp, hb2⟩
        case measure => simp [intOf]; omega
    · obtain rfl : i = l.length := by omega
      have d1 : decide ((l.length : Int) < (l.length : Int)) = false := decide_eq_false (by omega)
      have hR := hyes.out hA.out
      subst hR
      clear hyes hno hA
      go_wp2_with fail
      go_ret
      exact ⟨_, rfl, by simp, hB.out⟩
theorem contains_any (lo hi : Int) (v : Value) (l : List Int) (w : World) (h : NumsIn (Has_ w) w v l) :
    Calls Tryd.prog 56 #[v, .func (.func 57) #[.agg #[.int .i64 lo, .int .i64 hi]] #[]] w fun e w' => e = .returned (.bool (l.any (outB lo hi))) ∧ Below w.heap.size w w' := by
  have H := Lib.hid (idxSpan_any lo hi v l w h)
  clear h
  generalize l.any (outB lo hi) = R at *
  go_enter Tryd.func56, Tryd.ntmps56
  go_wp2_with fail
  refine H.out.mono ?_
  rintro e w1 ⟨r, rfl, hr, hb⟩
  have hB := Lib.hid hb
  clear hb
  go_wp2_with fail
  go_ret
  exact ⟨rfl, hB.out⟩
/-- Is every number within the span? -/
def holdB (lo hi : Int) (l : List Int) : Bool := !(l.any (outB lo hi))
theorem holds_any (lo hi : Int) (v : Value) (l : List Int) (w : World) (h : NumsIn (Has_ w) w v l) :
    Calls Tryd.prog 28 #[.agg #[.int .i64 lo, .int .i64 hi], v] w fun e w' => e = .returned (.bool (holdB lo hi l)) ∧ Below w.heap.size w w' := by
  have hb0 := (Below.refl w.heap.size w).alloc (Nat.le_refl _) (.cells #[.int .i64 lo, .int .i64 hi] 57)
  have H := Lib.hid (contains_any lo hi v l _ (h.later hb0))
  have HB0 := Lib.hid hb0
  unfold holdB
  clear h hb0
  generalize l.any (outB lo hi) = R at *
  go_enter Tryd.func28, Tryd.ntmps28
  go_wp2_with fail
  refine H.out.mono ?_
  rintro e w1 ⟨rfl, hb⟩
  have hB := Lib.hid (HB0.out.trans (hb.mono HB0.out.size))
  clear hb HB0 H
  go_wp2_with fail
  go_ret
  exact ⟨rfl, hB.out⟩
theorem areSites_any (v : Value) (l : List Int) (w : World) (h : NumsIn (Has_ w) w v l) :
    Calls Tryd.prog 54 #[v] w fun e w' => e = .returned (.bool (holdB 0 999 l)) ∧ Below w.heap.size w w' := by
  have H := Lib.hid (holds_any 0 999 v l w h)
  clear h
  generalize holdB 0 999 l = R at *
  go_enter Tryd.func54, Tryd.ntmps54
  go_wp2_with fail
  refine H.out.mono ?_
  rintro e w1 ⟨rfl, hb⟩
  go_wp2_with fail
  go_ret
  exact ⟨rfl, hb⟩
theorem areNumbers_any (v : Value) (l : List Int) (w : World) (h : NumsIn (Has_ w) w v l) :
    Calls Tryd.prog 55 #[v] w fun e w' => e = .returned (.bool (holdB 0 1000000000 l)) ∧ Below w.heap.size w w' := by
  have H := Lib.hid (holds_any 0 1000000000 v l w h)
  clear h
  generalize holdB 0 1000000000 l = R at *
  go_enter Tryd.func55, Tryd.ntmps55
  go_wp2_with fail
  refine H.out.mono ?_
  rintro e w1 ⟨rfl, hb⟩
  go_wp2_with fail
  go_ret
  exact ⟨rfl, hb⟩

/-- Is every byte within the two? -/
def withB (lo hi : UInt8) (s : List UInt8) : Bool := s.all fun c => decide (lo.toNat ≤ c.toNat) && decide (c.toNat ≤ hi.toNat)
theorem within_digits (s : List UInt8) : withB 48 57 s = s.all digB := rfl
theorem within_letters (s : List UInt8) : withB 65 90 s = s.all letB := rfl
set_option maxRecDepth 100000 in
set_option maxHeartbeats 1600000 in
theorem isWithin_of (b : ByteArray) (lo hi : UInt8) (hs : b.size ≤ maxLen) (w : World) : Calls Tryd.prog 58 #[.string b, .int .u8 lo.toNat, .int .u8 hi.toNat] w fun e w' => e = .returned (.bool (withB lo hi b.data.toList)) ∧ w = w' := by
  have hs2 : b.size ≤ 9223372036854775807 := by unfold maxLen at hs; omega
  have hlen : b.data.toList.length = b.size := by simp
  have hno : Hid (∀ i (h : i < b.size), ((b[i]'h).toNat < lo.toNat ∨ hi.toNat < (b[i]'h).toNat) → withB lo hi b.data.toList = false) := Lib.hid (fun i h hx => by
    unfold withB
    rw [List.all_eq_false]
    refine ⟨_, List.mem_of_getElem? (list_at b h), ?_⟩
    simp
    omega)
  have hyes : Hid ((∀ i (h : i < b.size), lo.toNat ≤ (b[i]'h).toNat ∧ (b[i]'h).toNat ≤ hi.toNat) → withB lo hi b.data.toList = true) := Lib.hid (fun hall => by
    unfold withB
    rw [List.all_eq_true]
    intro x hx
    obtain ⟨i, hi⟩ := List.mem_iff_getElem?.1 hx
    have hlt := (List.getElem?_eq_some_iff.1 hi).1
    rw [hlen] at hlt
    rw [list_at b hlt] at hi
    rw [← Option.some.inj hi]
    obtain ⟨a1, a2⟩ := hall i hlt
    simp
    omega)
  generalize withB lo hi b.data.toList = B at *
  generalize lo.toNat = l0 at *
  generalize hi.toNat = h0 at *
  clear hlen
  go_enter Tryd.func58, Tryd.ntmps58
  go_wp2_with fail
  go_loop [10] (fun vi => ∃ i : Nat, vi = .int .i64 i ∧ i ≤ b.size ∧ Hid (∀ j (h : j < b.size), j < i → l0 ≤ (b[j]'h).toNat ∧ (b[j]'h).toNat ≤ h0)) (fun vi => b.size - (intOf vi).toNat)
  case atStart => exact ⟨0, by go_num, by omega, Lib.hid (fun j h hj => absurd hj (by omega))⟩
  case round =>
    obtain ⟨i, rfl, hi, hA⟩ := hrel
    by_cases hlt : i < b.size
    · by_cases h1 : (b[i]'hlt).toNat < l0
      · have hb := hno.out i hlt (.inl h1)
        subst hb
        have d1 : decide ((((b[i]'hlt).toNat : Nat) : Int) < (l0 : Int)) = true := decide_eq_true (by omega)
        have d1' : decide ((b[i]'hlt).toNat < l0) = true := decide_eq_true (by omega)
        clear hno hyes hA h1
        go_wp2_with fail
        go_ret
        exact ⟨rfl, rfl⟩
      · by_cases h2 : h0 < (b[i]'hlt).toNat
        · have hb := hno.out i hlt (.inr h2)
          subst hb
          have d1 : decide ((((b[i]'hlt).toNat : Nat) : Int) < (l0 : Int)) = false := decide_eq_false (by omega)
          have d1' : decide ((b[i]'hlt).toNat < l0) = false := decide_eq_false (by omega)
          have d2 : decide ((h0 : Int) < (((b[i]'hlt).toNat : Nat) : Int)) = true := decide_eq_true (by omega)
          have d2' : decide (h0 < (b[i]'hlt).toNat) = true := decide_eq_true (by omega)
          clear hno hyes hA h1 h2
          go_wp2_with fail
          go_ret
          exact ⟨rfl, rfl⟩
        · have hN : Hid (∀ j (h : j < b.size), j < i + 1 → l0 ≤ (b[j]'h).toNat ∧ (b[j]'h).toNat ≤ h0) := Lib.hid (fun j h hj => by
            by_cases e : j = i
            · subst e; omega
            · exact hA.out j h (by omega))
          have d1 : decide ((((b[i]'hlt).toNat : Nat) : Int) < (l0 : Int)) = false := decide_eq_false (by omega)
          have d1' : decide ((b[i]'hlt).toNat < l0) = false := decide_eq_false (by omega)
          have d2 : decide ((h0 : Int) < (((b[i]'hlt).toNat : Nat) : Int)) = false := decide_eq_false (by omega)
          have d2' : decide (h0 < (b[i]'hlt).toNat) = false := decide_eq_false (by omega)
          clear hno hyes hA h1 h2
          go_wp2_with fail
          go_round
          case rel => exact ⟨i + 1, by go_num, by omega, hN⟩
          case measure => simp [intOf]; omega
    · obtain rfl : i = b.size := by omega
      have hb := hyes.out (fun j h => hA.out j h h)
      subst hb
      clear hno hyes hA
      go_wp2_with fail
      go_ret
      exact ⟨rfl, rfl⟩
theorem isWithin_any (s : List UInt8) (lo hi : UInt8) (hs : s.length ≤ maxLen) (w : World) : Calls Tryd.prog 58 #[strV s, .int .u8 lo.toNat, .int .u8 hi.toNat] w fun e w' => e = .returned (.bool (withB lo hi s)) ∧ w = w' := by
  have h := isWithin_of ⟨s.toArray⟩ lo hi (by show s.toArray.size ≤ _; simpa using hs) w
  simpa [strV] using h
theorem lIsCode_any (s : List UInt8) (hs : s.length ≤ maxLen) (w : World) : Calls Tryd.prog 29 #[strV s] w fun e w' => e = .returned (.bool (codeB s)) ∧ w = w' := by
  have H := Lib.hid (isWithin_any s 48 57 hs w)
  have hc : codeB s = (withB 48 57 s && (decide (s.length ≤ 8) && s.length % 2 == 0)) := rfl
  rw [hc]
  clear hc
  have hz : (⟨s.toArray⟩ : ByteArray).size = s.length := by show s.toArray.size = _; simp
  have l48 : ((48 : UInt8).toNat : Int) = 48 := rfl
  have l57 : ((57 : UInt8).toNat : Int) = 57 := rfl
  rw [l48, l57] at H
  generalize withB 48 57 s = W at *
  unfold strV at *
  by_cases h8 : s.length ≤ 8
  · have d1 : decide ((s.length : Int) ≤ 8) = true := decide_eq_true (by omega)
    rw [decide_eq_true h8, Bool.true_and]
    by_cases h2 : s.length % 2 = 0
    · rw [show (s.length % 2 == 0) = true from by rw [beq_iff_eq]; exact h2, Bool.and_true]
      have d2 : ((s.length : Int) % 2 == 0) = true := by rw [beq_iff_eq]; omega
      clear h2 h8 l48 l57
      go_enter Tryd.func29, Tryd.ntmps29
      go_wp2_with fail
      refine H.out.mono ?_
      rintro e w1 ⟨rfl, rfl⟩
      go_wp2_with fail
      go_ret
      exact ⟨rfl, rfl⟩
    · rw [show (s.length % 2 == 0) = false from by rw [beq_eq_false_iff_ne]; exact h2, Bool.and_false]
      have d2 : ((s.length : Int) % 2 == 0) = false := by rw [beq_eq_false_iff_ne]; omega
      clear h2 h8 H l48 l57
      go_enter Tryd.func29, Tryd.ntmps29
      go_wp2_with fail
      go_ret
      exact ⟨rfl, rfl⟩
  · have d1 : decide ((s.length : Int) ≤ 8) = false := decide_eq_false (by omega)
    rw [decide_eq_false h8, Bool.false_and, Bool.and_false]
    clear h8 H l48 l57
    go_enter Tryd.func29, Tryd.ntmps29
    go_wp2_with fail
    go_ret
    exact ⟨rfl, rfl⟩
theorem ctry_with (s : List UInt8) : ctryB s = ((s.length == 2) && withB 65 90 s) := by
  match s with
  | [] => rfl
  | [_] => rfl
  | [a, b] =>
    show (letB a && letB b) = (true && (letB a && (letB b && true)))
    rw [Bool.true_and, Bool.and_true]
  | _ :: _ :: _ :: r =>
    show false = ((r.length + 1 + 1 + 1 == 2) && _)
    rw [show (r.length + 1 + 1 + 1 == 2) = false from by rw [beq_eq_false_iff_ne]; omega]
    rfl
theorem lIsCountry_any (s : List UInt8) (hs : s.length ≤ maxLen) (w : World) : Calls Tryd.prog 30 #[strV s] w fun e w' => e = .returned (.bool (s.isEmpty || ctryB s)) ∧ w = w' := by
  have H := Lib.hid (isWithin_any s 65 90 hs w)
  have l48 : ((65 : UInt8).toNat : Int) = 65 := rfl
  have l57 : ((90 : UInt8).toNat : Int) = 90 := rfl
  rw [l48, l57] at H
  rw [ctry_with]
  unfold strV at *
  by_cases h0 : s = []
  · subst h0
    clear H l48 l57
    go_enter Tryd.func30, Tryd.ntmps30
    go_wp2_with fail
    go_ret
    exact ⟨rfl, rfl⟩
  · have z0 : (s == []) = false := by rw [beq_eq_false_iff_ne]; exact h0
    have z1 : s.isEmpty = false := by rw [List.isEmpty_eq_false_iff]; exact h0
    rw [z1, Bool.false_or]
    generalize withB 65 90 s = W at *
    by_cases h2 : s.length = 2
    · rw [show (s.length == 2) = true from by rw [beq_iff_eq]; exact h2, Bool.true_and]
      have d2 : ((s.length : Int) == 2) = true := by rw [beq_iff_eq]; omega
      clear h2 h0 z1 l48 l57
      go_enter Tryd.func30, Tryd.ntmps30
      go_wp2_with fail
      refine H.out.mono ?_
      rintro e w1 ⟨rfl, rfl⟩
      go_wp2_with fail
      go_ret
      exact ⟨rfl, rfl⟩
    · rw [show (s.length == 2) = false from by rw [beq_eq_false_iff_ne]; exact h2, Bool.false_and]
      have d2 : ((s.length : Int) == 2) = false := by rw [beq_eq_false_iff_ne]; omega
      clear h2 h0 z1 H l48 l57
      go_enter Tryd.func30, Tryd.ntmps30
      go_wp2_with fail
      go_ret
      exact ⟨rfl, rfl⟩
end Go.Proofs.YtepkihoakagidaaDoor
namespace Go.Proofs.YtepkihoakagidaaDoor
open Go.RowKit

theorem segDigit_any (c : UInt8) (w : World) : Calls Tryd.prog 73 #[byteV c] w fun e w' => e = .returned (.bool (digB c)) ∧ w = w' := by
  unfold byteV digB
  have d1 : decide ((48 : Int) ≤ (c.toNat : Int)) = decide (48 ≤ c.toNat) := decide_eq_decide.2 (by omega)
  have d2 : decide ((c.toNat : Int) ≤ 57) = decide (c.toNat ≤ 57) := decide_eq_decide.2 (by omega)
  generalize decide (48 ≤ c.toNat) = A at *
  generalize decide (c.toNat ≤ 57) = B at *
  generalize (c.toNat : Int) = x at *
  cases A <;> cases B
  all_goals
    go_enter Tryd.func73, Tryd.ntmps73
    go_wp2_with fail
    go_ret
    exact ⟨rfl, rfl⟩
theorem segLetter_any (c : UInt8) (w : World) : Calls Tryd.prog 74 #[byteV c] w fun e w' => e = .returned (.bool (letB c)) ∧ w = w' := by
  unfold byteV letB
  have d1 : decide ((65 : Int) ≤ (c.toNat : Int)) = decide (65 ≤ c.toNat) := decide_eq_decide.2 (by omega)
  have d2 : decide ((c.toNat : Int) ≤ 90) = decide (c.toNat ≤ 90) := decide_eq_decide.2 (by omega)
  generalize decide (65 ≤ c.toNat) = A at *
  generalize decide (c.toNat ≤ 90) = B at *
  generalize (c.toNat : Int) = x at *
  cases A <;> cases B
  all_goals
    go_enter Tryd.func74, Tryd.ntmps74
    go_wp2_with fail
    go_ret
    exact ⟨rfl, rfl⟩
set_option maxHeartbeats 800000 in
set_option maxHeartbeats 800000 in
set_option maxHeartbeats 800000 in
theorem segTag_any (t : List UInt8) (w : World) (ht : t.length ≤ maxLen) : Calls Tryd.prog 61 #[strV t] w fun e w' => e = .returned (.bool (tagB t)) ∧ w = w' := by
  unfold strV
  by_cases hl : t.length = 3
  · obtain ⟨a, b, c, rfl⟩ : ∃ a b c, t = [a, b, c] := by
      match t, hl with
      | [a, b, c], _ => exact ⟨a, b, c, rfl⟩
    have D0 := Lib.hid (fun w => segDigit_any ((⟨#[a, b, c]⟩ : ByteArray)[0]'(by show 0 < 3; omega)) w)
    have D1 := Lib.hid (fun w => segDigit_any ((⟨#[a, b, c]⟩ : ByteArray)[1]'(by show 1 < 3; omega)) w)
    have D2 := Lib.hid (fun w => segDigit_any ((⟨#[a, b, c]⟩ : ByteArray)[2]'(by show 2 < 3; omega)) w)
    have L0 := Lib.hid (fun w => segLetter_any ((⟨#[a, b, c]⟩ : ByteArray)[0]'(by show 0 < 3; omega)) w)
    have L1 := Lib.hid (fun w => segLetter_any ((⟨#[a, b, c]⟩ : ByteArray)[1]'(by show 1 < 3; omega)) w)
    have L2 := Lib.hid (fun w => segLetter_any ((⟨#[a, b, c]⟩ : ByteArray)[2]'(by show 2 < 3; omega)) w)
    unfold byteV at D0 D1 D2 L0 L1 L2
    have e0 : ((⟨#[a, b, c]⟩ : ByteArray)[0]'(by show 0 < 3; omega)) = a := rfl
    have e1 : ((⟨#[a, b, c]⟩ : ByteArray)[1]'(by show 1 < 3; omega)) = b := rfl
    have e2 : ((⟨#[a, b, c]⟩ : ByteArray)[2]'(by show 2 < 3; omega)) = c := rfl
    obtain ⟨R, hR⟩ : ∃ R, R = tagB [a, b, c] := ⟨_, rfl⟩
    have hRv : R = (letB a && ((letB b || digB b) && (letB c || digB c))) := hR
    rw [← hR]
    clear hR
    have hx : digB a = true → letB a = false := by
      intro h
      rcases byte_class a with ⟨_, h1, h2⟩ | ⟨h1, _⟩ | ⟨h1, _⟩
      · unfold digB at h
        simp at h
        omega
      · exact h1
      · exact h1
    cases hda : digB a with
    | true =>
      rw [e0, hda] at D0
      rw [hx hda, Bool.false_and] at hRv
      subst hRv
      clear hda hx D1 D2 L0 L1 L2
      go_enter Tryd.func61, Tryd.ntmps61
      go_wp2_with fail
      refine (D0.out _).mono ?_
      rintro e w1 ⟨rfl, rfl⟩
      go_wp2_with fail
      go_ret
      exact ⟨rfl, rfl⟩
    | false =>
      have hgood := Lib.hid (show TagTo a b c 3 → R = true from fun h => by
        rw [hRv, h.1 (by omega), h.2.1 (by omega), h.2.2 (by omega)]
        rfl)
      have hbad := Lib.hid (show ∀ i : Nat, (i = 0 ∧ letB a = false) ∨ (i = 1 ∧ letB b = false ∧ digB b = false) ∨ (i = 2 ∧ letB c = false ∧ digB c = false) → R = false from fun i h => by
        rw [hRv]
        rcases h with ⟨_, h⟩ | ⟨_, h, h2⟩ | ⟨_, h, h2⟩
        · rw [h]; rfl
        · rw [h, h2]; simp
        · rw [h, h2]; simp)
      rw [e0, hda] at D0
      clear hRv hx
      have hRv : True := trivial
      go_enter Tryd.func61, Tryd.ntmps61
      go_wp2_with fail
      refine (D0.out _).mono ?_
      rintro e w1 ⟨rfl, rfl⟩
      go_wp2_with fail
      go_loopw [14] (fun vi wx => ∃ i : Nat, vi = .int .i64 i ∧ i ≤ 3 ∧ Hid (TagTo a b c i) ∧ wx = w) (fun vi _ => 3 - (intOf vi).toNat)
      case atStart => exact ⟨0, by go_num, by omega, Lib.hid (show TagTo a b c 0 from ⟨fun h => by omega, fun h => by omega, fun h => by omega⟩), rfl⟩
      case round =>
        obtain ⟨i, rfl, hi, hA, rfl⟩ := hrel
        rcases (show i = 3 ∨ i = 0 ∨ i = 1 ∨ i = 2 by omega) with rfl | rfl | rfl | rfl
        · have hR := hgood.out hA.out
          rw [show (((3 : Nat)) : Int) = 3 from rfl]
          clear hA hRv hgood hbad
          subst hR
          go_wp2_with fail
          go_ret
          exact ⟨rfl, rfl⟩
        · rw [show (((0 : Nat)) : Int) = 0 from rfl]
          cases hl0 : letB a with
          | true =>
            have hN := Lib.hid (show TagTo a b c 1 from ⟨fun _ => hl0, fun h => by omega, fun h => by omega⟩)
            rw [e0, hl0] at L0
            clear hA hRv hgood hbad D0 D1 D2
            go_wp2_with fail
            refine (L0.out _).mono ?_
            rintro e w1 ⟨rfl, rfl⟩
            go_wp2_with fail
            go_roundw
            case rel => exact ⟨1, by go_num, by omega, hN, by first | rfl | trivial⟩
            case measure => simp [intOf]
          | false =>
            cases hd0 : digB a with
            | true =>
              exact absurd hda (by rw [hd0]; simp)
            | false =>
              have hR := hbad.out 0 (by first | exact .inl ⟨rfl, hl0⟩ | exact .inr (.inl ⟨rfl, hl0, hd0⟩) | exact .inr (.inr ⟨rfl, hl0, hd0⟩))
              rw [e0, hl0] at L0
              clear hA hRv hgood hbad
              subst hR
              go_wp2_with fail
              refine (L0.out _).mono ?_
              rintro e w1 ⟨rfl, rfl⟩
              go_wp2_with fail
              refine (D0.out _).mono ?_
              rintro e w1 ⟨rfl, rfl⟩
              go_wp2_with fail
              go_ret
              exact ⟨rfl, rfl⟩
        · rw [show (((1 : Nat)) : Int) = 1 from rfl]
          cases hl1 : letB b with
          | true =>
            have hN := Lib.hid (show TagTo a b c 2 from ⟨fun _ => hA.out.1 (by omega), fun _ => by rw [hl1]; rfl, fun h => by omega⟩)
            rw [e1, hl1] at L1
            clear hA hRv hgood hbad D0 D1 D2
            go_wp2_with fail
            refine (L1.out _).mono ?_
            rintro e w1 ⟨rfl, rfl⟩
            go_wp2_with fail
            go_roundw
            case rel => exact ⟨2, by go_num, by omega, hN, by first | rfl | trivial⟩
            case measure => simp [intOf]
          | false =>
            cases hd1 : digB b with
            | true =>
              have hN := Lib.hid (show TagTo a b c 2 from ⟨fun _ => hA.out.1 (by omega), fun _ => by first | (rw [hl1]; rfl) | (rw [hl1, hd1]; rfl), fun h => by omega⟩)
              rw [e1, hl1] at L1
              rw [e1, hd1] at D1
              clear hA hRv hgood hbad
              go_wp2_with fail
              refine (L1.out _).mono ?_
              rintro e w1 ⟨rfl, rfl⟩
              go_wp2_with fail
              refine (D1.out _).mono ?_
              rintro e w1 ⟨rfl, rfl⟩
              go_wp2_with fail
              go_roundw
              case rel => exact ⟨2, by go_num, by omega, hN, by first | rfl | trivial⟩
              case measure => simp [intOf]
            | false =>
              have hR := hbad.out 1 (by first | exact .inl ⟨rfl, hl1⟩ | exact .inr (.inl ⟨rfl, hl1, hd1⟩) | exact .inr (.inr ⟨rfl, hl1, hd1⟩))
              rw [e1, hl1] at L1
              rw [e1, hd1] at D1
              clear hA hRv hgood hbad
              subst hR
              go_wp2_with fail
              refine (L1.out _).mono ?_
              rintro e w1 ⟨rfl, rfl⟩
              go_wp2_with fail
              refine (D1.out _).mono ?_
              rintro e w1 ⟨rfl, rfl⟩
              go_wp2_with fail
              go_ret
              exact ⟨rfl, rfl⟩
        · rw [show (((2 : Nat)) : Int) = 2 from rfl]
          cases hl2 : letB c with
          | true =>
            have hN := Lib.hid (show TagTo a b c 3 from ⟨fun _ => hA.out.1 (by omega), fun _ => hA.out.2.1 (by omega), fun _ => by rw [hl2]; rfl⟩)
            rw [e2, hl2] at L2
            clear hA hRv hgood hbad D0 D1 D2
            go_wp2_with fail
            refine (L2.out _).mono ?_
            rintro e w1 ⟨rfl, rfl⟩
            go_wp2_with fail
            go_roundw
            case rel => exact ⟨3, by go_num, by omega, hN, by first | rfl | trivial⟩
            case measure => simp [intOf]
          | false =>
            cases hd2 : digB c with
            | true =>
              have hN := Lib.hid (show TagTo a b c 3 from ⟨fun _ => hA.out.1 (by omega), fun _ => hA.out.2.1 (by omega), fun _ => by rw [hl2, hd2]; rfl⟩)
              rw [e2, hl2] at L2
              rw [e2, hd2] at D2
              clear hA hRv hgood hbad
              go_wp2_with fail
              refine (L2.out _).mono ?_
              rintro e w1 ⟨rfl, rfl⟩
              go_wp2_with fail
              refine (D2.out _).mono ?_
              rintro e w1 ⟨rfl, rfl⟩
              go_wp2_with fail
              go_roundw
              case rel => exact ⟨3, by go_num, by omega, hN, by first | rfl | trivial⟩
              case measure => simp [intOf]
            | false =>
              have hR := hbad.out 2 (by first | exact .inl ⟨rfl, hl2⟩ | exact .inr (.inl ⟨rfl, hl2, hd2⟩) | exact .inr (.inr ⟨rfl, hl2, hd2⟩))
              rw [e2, hl2] at L2
              rw [e2, hd2] at D2
              clear hA hRv hgood hbad
              subst hR
              go_wp2_with fail
              refine (L2.out _).mono ?_
              rintro e w1 ⟨rfl, rfl⟩
              go_wp2_with fail
              refine (D2.out _).mono ?_
              rintro e w1 ⟨rfl, rfl⟩
              go_wp2_with fail
              go_ret
              exact ⟨rfl, rfl⟩
  · have e0 : tagB t = false := by
      cases h : tagB t with
      | false => rfl
      | true =>
        obtain ⟨a, b, c, hh, _⟩ := tag_shape h
        rw [hh] at hl
        exact absurd rfl hl
    rw [e0]
    have d0 : ((t.length : Int) != 3) = true := by rw [bne_iff_ne]; omega
    go_enter Tryd.func61, Tryd.ntmps61
    go_wp2_with fail
    go_ret
    exact ⟨rfl, rfl⟩

set_option maxRecDepth 100000 in
set_option maxHeartbeats 1600000 in
theorem segLimits_any (v : Value) (E : List (List (List UInt8))) (w : World) (h : ElemsIn (Has_ w) w v E) : Calls Tryd.prog 62 #[v] w fun e w' => e = .returned (.bool (!longB E)) ∧ w = w' := by
  obtain ⟨R, hR⟩ : ∃ R, R = !longB E := ⟨_, rfl⟩
  rw [← hR]
  obtain ⟨ao, cap, rfl, hEl, hEa⟩ := h.form
  have hEb : E.length ≤ 9223372036854775807 := by unfold maxLen at hEl; omega
  by_cases hn : 100 < E.length
  · have hR2 : R = false := by
      rw [hR]
      unfold longB
      rw [decide_eq_true hn]
      rfl
    have d0 : decide ((100 : Int) < (E.length : Int)) = true := decide_eq_true (by omega)
    clear hR hEa h
    subst hR2
    go_enter Tryd.func62, Tryd.ntmps62
    go_wp2_with fail
    go_ret
    exact ⟨rfl, rfl⟩
  · have d0 : decide ((100 : Int) < (E.length : Int)) = false := decide_eq_false (by omega)
    have HE := Lib.hid hEa
    have hR2 : R = !(E.any longE) := by
      rw [hR]
      unfold longB
      rw [decide_eq_false hn]
      rfl
    have hbad := Lib.hid (show ∀ (i : Nat) (e : List (List UInt8)), E[i]? = some e → longE e = true → R = false from fun i e he hl => by
      rw [hR2, List.any_eq_true.2 ⟨e, List.mem_of_getElem? he, hl⟩]
      rfl)
    have hgood := Lib.hid (show (E.take E.length).any longE = false → R = true from fun hh => by
      rw [List.take_length] at hh
      rw [hR2, hh]
      rfl)
    clear hR hR2 hEa h
    go_enter Tryd.func62, Tryd.ntmps62
    go_wp2_with fail
    go_loopw [12] (fun vi wx => ∃ i : Nat, vi = .int .i64 i ∧ i ≤ E.length ∧ Hid ((E.take i).any longE = false) ∧ wx = w) (fun vi _ => E.length - (intOf vi).toNat)
    case atStart => exact ⟨0, by go_num, by omega, Lib.hid rfl, by first | rfl | trivial⟩
    case round =>
      obtain ⟨i, rfl, hi, hA, rfl⟩ := hrel
      by_cases hlt : i < E.length
      · obtain ⟨e, he⟩ : ∃ e, E[i]? = some e := ⟨_, List.getElem?_eq_getElem hlt⟩
        obtain ⟨a0, u, rfl, hc0, hS⟩ := HE.out i e he
        obtain ⟨bo, cap2, rfl, hel, hea⟩ := hS.form
        have HS := Lib.hid hea
        have heb : e.length ≤ 9223372036854775807 := by unfold maxLen at hel; omega
        have d1 : decide ((i : Int) < (E.length : Int)) = true := decide_eq_true (by omega)
        have hB2 := Lib.hid (hbad.out i e he)
        have hN := Lib.hid (show longE e = false → (E.take (i + 1)).any longE = false from fun hh => by rw [any_snoc he, hA.out, hh]; rfl)
        clear hea hS he HE hbad hgood hA
        by_cases hm : 100 < e.length
        · have hR3 := hB2.out (by unfold longE; rw [decide_eq_true hm]; rfl)
          have d2 : decide ((100 : Int) < (e.length : Int)) = true := decide_eq_true (by omega)
          clear hB2 hN HS
          subst hR3
          go_wp2_with fail
          go_ret
          exact ⟨rfl, rfl⟩
        · have d2 : decide ((100 : Int) < (e.length : Int)) = false := decide_eq_false (by omega)
          have hx1 := Lib.hid (show ∀ (k : Nat) (x : List UInt8), e[k]? = some x → 1000 < x.length → R = false from fun k x hx hl => hB2.out (by
            unfold longE
            rw [List.any_eq_true.2 ⟨x, List.mem_of_getElem? hx, decide_eq_true hl⟩]
            simp))
          have hx2 := Lib.hid (show (e.take e.length).any (fun x => decide (1000 < x.length)) = false → (E.take (i + 1)).any longE = false from fun hh => hN.out (by
            rw [List.take_length] at hh
            unfold longE
            rw [decide_eq_false hm, hh]
            rfl))
          clear hB2 hN
          go_wp2_with fail
          go_loopw [21] (fun vk wx => ∃ k : Nat, vk = .int .i64 k ∧ k ≤ e.length ∧ Hid ((e.take k).any (fun x => decide (1000 < x.length)) = false) ∧ wx = wr) (fun vk _ => e.length - (intOf vk).toNat)
          case atStart => exact ⟨0, by go_num, by omega, Lib.hid rfl, by first | rfl | trivial⟩
          case round =>
            obtain ⟨k, rfl, hk, hK, rfl⟩ := hrel
            by_cases hkl : k < e.length
            · obtain ⟨x, hx⟩ : ∃ x, e[k]? = some x := ⟨_, List.getElem?_eq_getElem hkl⟩
              obtain ⟨b0, rfl, hck, hxl⟩ := HS.out k x hx
              unfold strV at hck
              have d3 : decide ((k : Int) < (e.length : Int)) = true := decide_eq_true (by omega)
              by_cases hxx : 1000 < x.length
              · have hR3 := hx1.out k x hx hxx
                have d4 : decide ((1000 : Int) < (x.length : Int)) = true := decide_eq_true (by omega)
                clear hx1 hx2 HS hK hx
                subst hR3
                go_wp2_with fail
                go_ret
                exact ⟨rfl, rfl⟩
              · have hN := Lib.hid (show (e.take (k + 1)).any (fun x => decide (1000 < x.length)) = false by rw [any_snoc hx, hK.out, decide_eq_false hxx]; rfl)
                have d4 : decide ((1000 : Int) < (x.length : Int)) = false := decide_eq_false (by omega)
                clear hx1 hx2 HS hK hx
                go_wp2_with fail
                go_roundw
                case rel => exact ⟨k + 1, by go_num, by omega, hN, by first | rfl | trivial⟩
                case measure => simp [intOf]; omega
            · obtain rfl : k = e.length := by omega
              have hN := Lib.hid (hx2.out hK.out)
              have d3 : decide ((e.length : Int) < (e.length : Int)) = false := decide_eq_false (by omega)
              clear hx1 hx2 HS hK
              go_wp2_with fail
              go_roundw
              case rel => exact ⟨i + 1, by go_num, by omega, hN, by first | rfl | trivial⟩
              case measure => simp [intOf]; omega
      · obtain rfl : i = E.length := by omega
        have hR3 := hgood.out hA.out
        have d1 : decide ((E.length : Int) < (E.length : Int)) = false := decide_eq_false (by omega)
        clear hbad hgood hA HE
        subst hR3
        go_wp2_with fail
        go_ret
        exact ⟨rfl, rfl⟩

set_option maxRecDepth 100000 in
set_option maxHeartbeats 1600000 in
theorem segEmpty_any (v : Value) (E : List (List (List UInt8))) (w : World) (h : ElemsIn (Has_ w) w v E) : Calls Tryd.prog 63 #[v] w fun e w' => e = .returned (.bool (badB E)) ∧ w = w' := by
  obtain ⟨R, hR⟩ : ∃ R, R = badB E := ⟨_, rfl⟩
  rw [← hR]
  have hR3 := Lib.hid (show badB (E.drop 0) = R from hR.symm)
  have hbd := Lib.hid (fun (i : Nat) (e : List (List UInt8)) (he : E[i]? = some e) => bad_drop he)
  obtain ⟨ao, cap, rfl, hEl, hEa⟩ := h.form
  have hEb : E.length ≤ 9223372036854775807 := by unfold maxLen at hEl; omega
  have HE := Lib.hid hEa
  clear hR hEa h
  go_enter Tryd.func63, Tryd.ntmps63
  go_wp2_with fail
  go_loopw [8] (fun vi wx => ∃ i : Nat, vi = .int .i64 i ∧ i ≤ E.length ∧ Hid (badB (E.drop i) = R) ∧ wx = w) (fun vi _ => E.length - (intOf vi).toNat)
  case atStart => exact ⟨0, by go_num, by omega, hR3, by first | rfl | trivial⟩
  case round =>
    obtain ⟨i, rfl, hi, hA, rfl⟩ := hrel
    clear hR3
    by_cases hlt : i < E.length
    · obtain ⟨e, he⟩ : ∃ e, E[i]? = some e := ⟨_, List.getElem?_eq_getElem hlt⟩
      obtain ⟨a0, u, rfl, hc0, hS⟩ := HE.out i e he
      obtain ⟨bo, cap2, rfl, hel, hea⟩ := hS.form
      have hst := hbd.out i e he
      rw [hA.out] at hst
      have d1 : decide ((i : Int) < (E.length : Int)) = true := decide_eq_true (by omega)
      have heb : e.length ≤ 9223372036854775807 := by unfold maxLen at hel; omega
      by_cases hz : e.length = 0
      · have hst2 : R = (decide (i + 1 = E.length) || badB (E.drop (i + 1))) := by
          rw [hst, List.eq_nil_of_length_eq_zero hz]
          show ((true && decide (i + 1 = E.length) || false) || _) = _
          rw [Bool.true_and, Bool.or_false]
        rw [hz] at hc0
        clear hst hea hS he hel heb hz HE hbd hA
        by_cases hlast : i + 1 = E.length
        · have hR5 : R = true := by rw [hst2, decide_eq_true hlast]; rfl
          have d2 : ((i : Int) == (E.length : Int) - 1) = true := by rw [beq_iff_eq]; omega
          clear hst2
          subst hR5
          go_wp2_with fail
          go_ret
          exact ⟨rfl, rfl⟩
        · have hN := Lib.hid (show badB (E.drop (i + 1)) = R by rw [hst2, decide_eq_false hlast]; rfl)
          have d2 : ((i : Int) == (E.length : Int) - 1) = false := by rw [beq_eq_false_iff_ne]; omega
          clear hst2
          go_wp2_with fail
          go_roundw
          case rel => exact ⟨i + 1, by go_num, by omega, hN, by first | rfl | trivial⟩
          case measure => simp [intOf]; omega
      · obtain ⟨x, hx⟩ : ∃ x, e[e.length - 1]? = some x := ⟨_, List.getElem?_eq_getElem (by omega)⟩
        obtain ⟨b0, rfl, hck, hxl⟩ := hea _ x hx
        have hla := last_at hx
        have hemp : e.isEmpty = false := by cases e with | nil => simp at hz | cons => rfl
        rw [hla, hemp, Bool.false_and, Bool.false_or] at hst
        have e1 : ((e.length - 1 : Nat) : Int) = (e.length : Int) - 1 := by omega
        have d3 : ((e.length : Int) == 0) = false := by rw [beq_eq_false_iff_ne]; omega
        have d4 : decide ((0 : Int) < (e.length : Int)) = true := decide_eq_true (by omega)
        unfold strV at hck
        have ht1 : ((e.length : Int) - 1).toNat = e.length - 1 := by omega
        clear hea hS he HE hbd hla hemp hx hA
        cases hxe : x.isEmpty with
        | true =>
          have hR5 : R = true := by rw [hst, hxe]; rfl
          have hcmp : ((⟨x.toArray⟩ : ByteArray).toList == ([] : List UInt8)) = true := by rw [ByteArray.toList_eq]; simpa using hxe
          clear hst
          subst hR5
          go_wp2_with fail
          go_ret
          exact ⟨rfl, rfl⟩
        | false =>
          have hN := Lib.hid (show badB (E.drop (i + 1)) = R by rw [hst, hxe]; rfl)
          have hcmp : ((⟨x.toArray⟩ : ByteArray).toList == ([] : List UInt8)) = false := by rw [ByteArray.toList_eq]; simpa using hxe
          clear hst
          go_wp2_with fail
          go_roundw
          case rel => exact ⟨i + 1, by go_num, by omega, hN, by first | rfl | trivial⟩
          case measure => simp [intOf]; omega
    · obtain rfl : i = E.length := by omega
      have hR5 : R = false := by rw [← hA.out, List.drop_length]; rfl
      have d1 : decide ((E.length : Int) < (E.length : Int)) = false := decide_eq_false (by omega)
      clear hbd hA HE
      subst hR5
      go_wp2_with fail
      go_ret
      exact ⟨rfl, rfl⟩

set_option maxHeartbeats 800000 in
theorem segValidate_any (t : List UInt8) (ht : t.length ≤ maxLen) (v : Value) (E : List (List (List UInt8))) (w : World) (h : ElemsIn (Has_ w) w v E) :
    Calls Tryd.prog 43 #[.agg #[strV t, v]] w fun e w' => e = .returned (.int .i64 (segE ⟨t, E⟩)) ∧ Below w.heap.size w w' := by
  have HT := Lib.hid (fun w => segTag_any t w ht)
  have hB0 : Below w.heap.size w (w.alloc (.cells #[strV t, v] 49)) := (Below.refl _ _).alloc (Nat.le_refl _) _
  have hE := h.keep (has_keep hB0)
  have HL := Lib.hid (segLimits_any v E _ hE)
  have HM := Lib.hid (segEmpty_any v E _ hE)
  obtain ⟨ao, cap, rfl, _⟩ := h.form
  have q0 : (w.alloc (.cells #[strV t, .slice ao E.length cap] 49)).cell? ⟨w.heap.size, 0, none⟩ = some (strV t) := by simp [go_sem]
  have q1 : (w.alloc (.cells #[strV t, .slice ao E.length cap] 49)).cell? ⟨w.heap.size, 1, none⟩ = some (.slice ao E.length cap) := by simp [go_sem]
  have hF : segE ⟨t, E⟩ = if tagB t then (if longB E then 8 else if badB E then 1 else 0) else 1 := rfl
  rw [hF]
  clear hF h hE
  unfold strV at *
  generalize tagB t = A at *
  generalize longB E = B at *
  generalize badB E = C at *
  cases A <;> cases B <;> cases C
  all_goals
    go_enter Tryd.func43, Tryd.ntmps43
    go_wp2_with fail
    generalize w.alloc (.cells #[.string ⟨t.toArray⟩, .slice ao E.length cap] 49) = W at *
    refine (HT.out _).mono ?_
    rintro e w1 ⟨rfl, rfl⟩
    go_wp2_with fail
    first
      | (go_ret; exact ⟨rfl, hB0⟩)
      | (refine HL.out.mono ?_
         rintro e w1 ⟨rfl, rfl⟩
         go_wp2_with fail
         first
           | (go_ret; exact ⟨rfl, hB0⟩)
           | (refine HM.out.mono ?_
              rintro e w1 ⟨rfl, rfl⟩
              go_wp2_with fail
              go_ret
              exact ⟨rfl, hB0⟩))
end Go.Proofs.YtepkihoakagidaaDoor
namespace Go.Proofs.YtepkihoakagidaaDoor
open Go.RowKit

theorem BytesIn.byte {p : Nat → Prop} {w : World} {ao : Option Addr} {n cap : Nat} {b : List UInt8} (h : BytesIn p w (.slice ao n cap) b) {i : Nat} (hi : i < b.length) : ∃ a, ao = some a ∧ w.cell? (a.add i) = some (byteV (b[i]'hi)) := by
  obtain ⟨_, ⟨h1, h2⟩ | ⟨a, cap2, h2, _, _, _, h5⟩⟩ := h
  · omega
  · injection h2 with e1
    exact ⟨a, e1, h5 i _ (by rw [List.getElem?_map, List.getElem?_eq_getElem hi]; rfl)⟩
theorem sum_take {b : List UInt8} {i : Nat} (h : i < b.length) : sumF (b.take (i + 1)) = sumStep (sumF (b.take i)) (b[i]'h) := by
  unfold sumF
  rw [List.take_add_one, List.getElem?_eq_getElem h, List.foldl_append]
  rfl

set_option maxHeartbeats 1600000 in
theorem refChecksum_any (v : Value) (b : List UInt8) (w : World) (h : BytesIn (Has_ w) w v b) :
    Calls Tryd.prog 26 #[v] w fun e w' => e = .returned (.int .i64 (checkV b)) ∧ w = w' := by
  obtain ⟨ao, cap, rfl, hc1, hc2⟩ := h.slice
  have hC := Lib.hid (fun i (hi : i < b.length) => h.byte hi)
  have hlen : b.length ≤ 9223372036854775807 := by unfold maxLen at hc2; omega
  obtain ⟨T, hT⟩ : ∃ T, T = checkV b := ⟨_, rfl⟩
  rw [← hT]
  have HT := Lib.hid hT
  clear hT h hc1 hc2
  go_enter Tryd.func26, Tryd.ntmps26
  go_wp2_with fail
  go_loop [3, 4, 5] (fun vx vy vi => ∃ (i x y : Nat), vi = .int .i64 i ∧ vx = .int .i64 x ∧ vy = .int .i64 y ∧ i ≤ b.length ∧ x < 65521 ∧ y < 65521 ∧ Hid ((x, y) = sumF (b.take i))) (fun _ _ vi => b.length - (intOf vi).toNat)
  case atStart => exact ⟨0, 1, 0, by go_num, by go_num, by go_num, by omega, by omega, by omega, Lib.hid rfl⟩
  case round =>
    obtain ⟨i, x, y, rfl, rfl, rfl, hi, hx, hy, hS⟩ := hrel
    by_cases hlt : i < b.length
    · obtain ⟨a, rfl, hc⟩ := hC.out i hlt
      have hst := Lib.hid (sum_take hlt)
      unfold byteV at hc
      have hcb := (b[i]'hlt).toNat_lt
      have hN := Lib.hid (show ((x + (b[i]'hlt).toNat) % 65521, (y + (x + (b[i]'hlt).toNat) % 65521) % 65521) = sumF (b.take (i + 1)) by rw [hst.out, ← hS.out]; rfl)
      generalize (b[i]'hlt).toNat = c at *
      generalize hp : a.add i = pa at *
      have j1 : (i : Int) < (b.length : Int) := by omega
      clear hst hS hC
      obtain ⟨x2, hx2⟩ : ∃ x2, x2 = (x + c) % 65521 := ⟨_, rfl⟩
      rw [← hx2] at hN
      have hx3 : x2 < 65521 := by omega
      obtain ⟨y2, hy2⟩ : ∃ y2, y2 = (y + x2) % 65521 := ⟨_, rfl⟩
      rw [← hy2] at hN
      have hy3 : y2 < 65521 := by omega
      have k1 : IntKind.i64.wrap ((x : Int) + (c : Int)) = (x : Int) + (c : Int) := by rw [IntKind.wrap_i64]; omega
      have k2 : ((x : Int) + (c : Int)) % 65521 = (x2 : Int) := by omega
      have k3 : IntKind.i64.wrap ((y : Int) + (x2 : Int)) = (y : Int) + (x2 : Int) := by rw [IntKind.wrap_i64]; omega
      have k4 : ((y : Int) + (x2 : Int)) % 65521 = (y2 : Int) := by omega
      have k5 : IntKind.i64.wrap (c : Int) = (c : Int) := by rw [IntKind.wrap_i64]; omega
      clear hx2 hy2
      go_wp2_with fail
      go_round
      case rel => exact ⟨i + 1, x2, y2, by go_num, by go_num, by go_num, by omega, hx3, hy3, hN⟩
      case measure => simp [intOf]; omega
    · obtain rfl : i = b.length := by omega
      have hfin := hS.out
      rw [List.take_length] at hfin
      have hT : T = y * 65536 + x := by rw [HT.out]; unfold checkV; rw [← hfin]
      subst hT
      have k1 : IntKind.i64.wrap ((y : Int) * 65536) = (y : Int) * 65536 := by rw [IntKind.wrap_i64]; omega
      have k2 : IntKind.i64.wrap ((y : Int) * 65536 + (x : Int)) = (y : Int) * 65536 + (x : Int) := by rw [IntKind.wrap_i64]; omega
      clear hfin hS HT hC
      go_wp2_with fail
      go_ret
      exact ⟨by simp, rfl⟩
end Go.Proofs.YtepkihoakagidaaDoor
namespace Go.Proofs.YtepkihoakagidaaDoor
open Go.RowKit

set_option maxHeartbeats 1600000 in
theorem msgChecksum_any (v : Value) (b : List UInt8) (w : World) (h : BytesIn (Has_ w) w v b) :
    Calls Tryd.prog 25 #[v] w fun e w' => e = .returned (.int .i64 (checkV b : Nat)) ∧ Below w.heap.size w w' := by
  obtain ⟨ao, cap, rfl, hc1, hc2⟩ := h.slice
  have hC := Lib.hid (fun i (hi : i < b.length) => h.byte hi)
  have hlen : b.length ≤ 9223372036854775807 := by unfold maxLen at hc2; omega
  obtain ⟨T, hT⟩ : ∃ T, T = checkV b := ⟨_, rfl⟩
  rw [← hT]
  have HT := Lib.hid hT
  clear hT h hc1 hc2
  go_enter Tryd.func25, Tryd.ntmps25
  go_wp2_with fail
  go_loop [3, 4, 9] (fun vx vy vi => ∃ (i x y : Nat), vi = .int .i64 i ∧ vx = .int .i64 x ∧ vy = .int .i64 y ∧ i ≤ b.length ∧ x < 65521 ∧ y < 65521 ∧ Hid ((x, y) = sumF (b.take i))) (fun _ _ vi => b.length - (intOf vi).toNat)
  case atStart => exact ⟨0, 1, 0, by go_num, by go_num, by go_num, by omega, by omega, by omega, Lib.hid rfl⟩
  case round =>
    obtain ⟨i, x, y, rfl, rfl, rfl, hi, hx, hy, hS⟩ := hrel
    by_cases hlt : i < b.length
    · obtain ⟨a, rfl, hc⟩ := hC.out i hlt
      have hst := Lib.hid (sum_take hlt)
      unfold byteV at hc
      have hcb := (b[i]'hlt).toNat_lt
      have hN := Lib.hid (show ((x + (b[i]'hlt).toNat) % 65521, (y + (x + (b[i]'hlt).toNat) % 65521) % 65521) = sumF (b.take (i + 1)) by rw [hst.out, ← hS.out]; rfl)
      generalize (b[i]'hlt).toNat = c at *
      generalize hp : a.add i = pa at *
      have j1 : (i : Int) < (b.length : Int) := by omega
      clear hst hS hC
      obtain ⟨x2, hx2⟩ : ∃ x2, x2 = (x + c) % 65521 := ⟨_, rfl⟩
      rw [← hx2] at hN
      have hx3 : x2 < 65521 := by omega
      obtain ⟨y2, hy2⟩ : ∃ y2, y2 = (y + x2) % 65521 := ⟨_, rfl⟩
      rw [← hy2] at hN
      have hy3 : y2 < 65521 := by omega
      have k1 : IntKind.i64.wrap ((x : Int) + (c : Int)) = (x : Int) + (c : Int) := by rw [IntKind.wrap_i64]; omega
      have k2 : ((x : Int) + (c : Int)) % 65521 = (x2 : Int) := by omega
      have k3 : IntKind.i64.wrap ((y : Int) + (x2 : Int)) = (y : Int) + (x2 : Int) := by rw [IntKind.wrap_i64]; omega
      have k4 : ((y : Int) + (x2 : Int)) % 65521 = (y2 : Int) := by omega
      have k5 : IntKind.i64.wrap (c : Int) = (c : Int) := by rw [IntKind.wrap_i64]; omega
      clear hx2 hy2
      go_wp2_with fail
      go_round
      case rel => exact ⟨i + 1, x2, y2, by go_num, by go_num, by go_num, by omega, hx3, hy3, hN⟩
      case measure => simp [intOf]; omega
    · obtain rfl : i = b.length := by omega
      have hfin := hS.out
      rw [List.take_length] at hfin
      have hT : T = y * 65536 + x := by rw [HT.out]; unfold checkV; rw [← hfin]
      subst hT
      have k1 : IntKind.i64.wrap ((y : Int) * 65536) = (y : Int) * 65536 := by rw [IntKind.wrap_i64]; omega
      have k2 : IntKind.i64.wrap ((y : Int) * 65536 + (x : Int)) = (y : Int) * 65536 + (x : Int) := by rw [IntKind.wrap_i64]; omega
      clear hfin hS HT hC
      go_wp2_with fail
      go_ret
      exact ⟨by simp, Below.refl _ _⟩
end Go.Proofs.YtepkihoakagidaaDoor
namespace Go.Proofs.YtepkihoakagidaaDoor

/-- An interchange. -/
structure Inter where
  snd_ : Int
  rcv : Int
  num : Int
  msgs : List Msg
def noInter : Inter := ⟨0, 0, 0, []⟩
def tUNB : List UInt8 := [85, 78, 66]
def tUNZ : List UInt8 := [85, 78, 90]
def innerM (l : List Msg) : List Seg := l.flatMap segsM
def innerB (l : List Msg) : List UInt8 := (innerM l).flatMap encS
def headS (x : Inter) : Seg := rowS tUNB [x.snd_, x.rcv, x.num]
def footS (l : List Msg) : Seg := rowS tUNZ [(l.length : Int), (checkV (innerB l) : Int)]
def packS (x : Inter) : List Seg := [headS x] ++ innerM x.msgs ++ [footS x.msgs]
def packB (x : Inter) : List UInt8 := (packS x).flatMap encS
def packE (x : Inter) : Int := if inB x.snd_ 999 && (inB x.rcv 999 && inB x.num 1000000000) then (if x.msgs.length ≤ 1000 then (match x.msgs.find? fun m => msgE m != 0 with | some m => msgE m | none => 0) else 8) else 2
theorem pack_split (x : Inter) : packB x = encS (headS x) ++ (innerB x.msgs ++ encS (footS x.msgs)) := by
  unfold packB packS innerB
  simp [List.flatMap_append]

/-- Two lists of one length that differ at one place at most. -/
def OneOff (u v : List UInt8) : Prop := u.length = v.length ∧ ∀ i j : Nat, u[i]? ≠ v[i]? → u[j]? ≠ v[j]? → i = j
theorem OneOff.symm {u v : List UInt8} (h : OneOff u v) : OneOff v u := ⟨h.1.symm, fun i j hi hj => h.2 i j (Ne.symm hi) (Ne.symm hj)⟩
theorem OneOff.set (u : List UInt8) (k : Nat) (c : UInt8) : OneOff u (u.set k c) := by
  refine ⟨by simp, fun i j hi hj => ?_⟩
  have e : ∀ i, u[i]? ≠ (u.set k c)[i]? → i = k := fun i hi => by
    rcases Decidable.em (k = i) with h | h
    · exact h.symm
    · exact absurd (List.getElem?_set_ne h).symm hi
  rw [e i hi, e j hj]
theorem OneOff.drop {h u v : List UInt8} (ho : OneOff (h ++ u) (h ++ v)) : OneOff u v := by
  have hl := ho.1
  simp only [List.length_append] at hl
  refine ⟨by omega, fun i j hi hj => ?_⟩
  have := ho.2 (h.length + i) (h.length + j) (by rw [List.getElem?_append_right (by omega), List.getElem?_append_right (by omega), Nat.add_sub_cancel_left]; exact hi) (by rw [List.getElem?_append_right (by omega), List.getElem?_append_right (by omega), Nat.add_sub_cancel_left]; exact hj)
  omega
/-- The inner bytes: none, or closed by an apostrophe. -/
def Closed (I : List UInt8) : Prop := I = [] ∨ I[I.length - 1]? = some 39
/-- A foot: it begins with U, holds no other U, and no apostrophe but the last byte. -/
def FootL (T : List UInt8) : Prop := ∃ q, T = 85 :: (q ++ [39]) ∧ (∀ c ∈ q, c ≠ 85 ∧ c ≠ 39)
theorem foot_len {I T J U : List UInt8} (ho : OneOff (I ++ T) (J ++ U)) (hJ : Closed J) (hT : FootL T) (hU : FootL U) : ¬ I.length < J.length := by
  intro hlt
  obtain ⟨q, rfl, hq⟩ := hT
  obtain ⟨r, rfl, hr⟩ := hU
  have hl := ho.1
  simp only [List.length_append, List.length_cons, List.length_nil] at hl
  have hj : J[J.length - 1]? = some 39 := by
    rcases hJ with rfl | h
    · simp at hlt
    · exact h
  have hqn : ∀ (i : Nat) (c : UInt8), q[i]? = some c → c ≠ 85 ∧ c ≠ 39 := fun i c h => hq c (List.mem_of_getElem? h)
  have d1 : (I ++ 85 :: (q ++ [39]))[J.length - 1]? ≠ (J ++ 85 :: (r ++ [39]))[J.length - 1]? := by
    rw [List.getElem?_append_left (l₁ := J) (by omega), hj, List.getElem?_append_right (by omega)]
    intro he
    rcases Nat.eq_zero_or_pos (J.length - 1 - I.length) with h0 | h0
    · rw [h0] at he
      simp at he
    · obtain ⟨k, hk⟩ : ∃ k, J.length - 1 - I.length = k + 1 := ⟨J.length - 1 - I.length - 1, by omega⟩
      rw [hk, List.getElem?_cons_succ, List.getElem?_append_left (by omega)] at he
      exact (hqn _ _ he).2 rfl
  have d2 : (I ++ 85 :: (q ++ [39]))[J.length]? ≠ (J ++ 85 :: (r ++ [39]))[J.length]? := by
    rw [List.getElem?_append_right (l₁ := J) (Nat.le_refl _), Nat.sub_self, List.getElem?_cons_zero, List.getElem?_append_right (by omega)]
    intro he
    obtain ⟨k, hk⟩ : ∃ k, J.length - I.length = k + 1 := ⟨J.length - I.length - 1, by omega⟩
    rw [hk, List.getElem?_cons_succ] at he
    by_cases hkq : k < q.length
    · rw [List.getElem?_append_left hkq] at he
      exact (hqn _ _ he).1 rfl
    · rw [List.getElem?_append_right (by omega)] at he
      have : k - q.length = 0 := by omega
      rw [this] at he
      simp at he
  have := ho.2 _ _ d1 d2
  omega
theorem dig_mem : ∀ (n : Nat) (c : UInt8), c ∈ Lib.decDigits n → 48 ≤ c.toNat ∧ c.toNat ≤ 57 := by
  intro n
  induction n using Nat.strongRecOn with
  | _ n ih =>
    intro c hc
    by_cases h : n < 10
    · rw [Lib.decDigits_one h] at hc
      rw [List.mem_singleton.1 hc, digit_nat n h]
      omega
    · rw [Lib.decDigits, dif_neg h] at hc
      rcases List.mem_append.1 hc with hc | hc
      · exact ih (n / 10) (by omega) c hc
      · rw [List.mem_singleton.1 hc, digit_nat _ (Nat.mod_lt _ (by omega))]
        omega
theorem itoa_mem (n : Nat) (c : UInt8) (h : c ∈ Lib.itoa (n : Int)) : 48 ≤ c.toNat ∧ c.toNat ≤ 57 := by
  unfold Lib.itoa at h
  rw [if_neg (by omega)] at h
  exact dig_mem _ c h
theorem esc_mem : ∀ (x : List UInt8) (c : UInt8), c ∈ esc x → c = 63 ∨ c ∈ x
  | a :: x, c, h => by
    have hh : c ∈ (if spB a then 63 :: a :: esc x else a :: esc x) := h
    split at hh
    · rcases List.mem_cons.1 hh with h1 | h1
      · exact .inl h1
      · rcases List.mem_cons.1 h1 with h2 | h2
        · exact .inr (h2 ▸ List.mem_cons_self ..)
        · exact (esc_mem x c h2).imp id (List.mem_cons_of_mem _)
    · rcases List.mem_cons.1 hh with h2 | h2
      · exact .inr (h2 ▸ List.mem_cons_self ..)
      · exact (esc_mem x c h2).imp id (List.mem_cons_of_mem _)
theorem foot_ok (l : List Msg) : FootL (encS (footS l)) := by
  refine ⟨[78, 90] ++ encEls (footS l).els, rfl, fun c hc => ?_⟩
  have hd : (48 ≤ c.toNat ∧ c.toNat ≤ 57) → c ≠ 85 ∧ c ≠ 39 := fun h => ⟨fun e => by rw [e] at h; simp at h, fun e => by rw [e] at h; simp at h⟩
  rcases List.mem_append.1 hc with hc | hc
  · simp only [List.mem_cons, List.not_mem_nil, or_false] at hc
    rcases hc with rfl | rfl <;> decide
  · unfold encEls footS rowS at hc
    obtain ⟨e, he, hc⟩ := List.mem_flatMap.1 hc
    simp only [List.map_cons, List.map_nil, List.mem_cons, List.not_mem_nil, or_false, elS_itoa] at he
    rcases he with rfl | rfl
    · rcases List.mem_cons.1 hc with rfl | hc
      · decide
      · rw [show encE [Lib.itoa (l.length : Int)] = esc (Lib.itoa (l.length : Int)) ++ [] from rfl, List.append_nil] at hc
        rcases esc_mem _ _ hc with rfl | hc
        · decide
        · exact hd (itoa_mem _ c hc)
    · rcases List.mem_cons.1 hc with rfl | hc
      · decide
      · rw [show encE [Lib.itoa (checkV (innerB l) : Int)] = esc (Lib.itoa (checkV (innerB l) : Int)) ++ [] from rfl, List.append_nil] at hc
        rcases esc_mem _ _ hc with rfl | hc
        · decide
        · exact hd (itoa_mem _ c hc)
theorem flat_closed : ∀ L : List Seg, Closed (L.flatMap encS)
  | [] => .inl rfl
  | s :: L => by
    right
    rcases flat_closed L with h | h
    · rw [List.flatMap_cons, h, List.append_nil]
      unfold encS
      simp
    · rw [List.flatMap_cons]
      have hp : 0 < (L.flatMap encS).length := by
        have := (List.getElem?_eq_some_iff.1 h).1
        omega
      rw [List.length_append, List.getElem?_append_right (by omega)]
      rw [show (encS s).length + (L.flatMap encS).length - 1 - (encS s).length = (L.flatMap encS).length - 1 by omega]
      exact h
theorem inner_ok {l : List Msg} (h : ∀ m ∈ l, msgE m = 0) : ∀ s ∈ innerM l, segE s = 0 := by
  intro s hs
  obtain ⟨m, hm, hs⟩ := List.mem_flatMap.1 hs
  exact segs_ok (h m hm) s hs
theorem inner_inj {l k : List Msg} (hl : ∀ m ∈ l, msgE m = 0) (hk : ∀ m ∈ k, msgE m = 0) (h : innerB l = innerB k) : innerM l = innerM k := by
  have e1 := dec_enc (innerM l) (innerB l).length 0 [] (inner_ok hl) (Nat.le_refl _)
  have e2 := dec_enc (innerM k) (innerB k).length 0 [] (inner_ok hk) (Nat.le_refl _)
  rw [show (innerM l).flatMap encS = innerB k from h, h] at e1
  rw [show (innerM k).flatMap encS = innerB k from rfl, e1] at e2
  simpa using (Prod.mk.inj e2).1
def isEnd (s : Seg) : Bool := s.tag == tEND
theorem front_end (m : Msg) : (frontS m).countP isEnd = 0 := by
  rw [List.countP_eq_zero]
  intro s hs
  unfold frontS lotS_ gdsS lstS txtS at hs
  simp only [List.mem_append] at hs
  rcases hs with (((hs | hs) | hs) | hs) | hs
  · rw [List.mem_singleton.1 hs]; exact Bool.false_ne_true
  · split at hs
    · cases hs
    · rw [List.mem_singleton.1 hs]; exact Bool.false_ne_true
  · split at hs
    · cases hs
    · rw [List.mem_singleton.1 hs]; exact Bool.false_ne_true
  · split at hs
    · cases hs
    · rw [List.mem_singleton.1 hs]; exact Bool.false_ne_true
  · split at hs
    · cases hs
    · rw [List.mem_singleton.1 hs]; exact Bool.false_ne_true
theorem segs_end (m : Msg) : (segsM m).countP isEnd = 1 := by
  unfold segsM
  rw [List.countP_append, front_end]
  rfl
theorem inner_count : ∀ l : List Msg, (innerM l).countP isEnd = l.length
  | [] => rfl
  | m :: l => by
    show (segsM m ++ innerM l).countP isEnd = _
    rw [List.countP_append, segs_end, inner_count l]
    simp
    omega
theorem check_small (b : List UInt8) : checkV b < 4294967296 := by
  have := sum_small b (1, 0) (by omega) (by omega)
  unfold checkV sumF
  omega
theorem foot_seg {l : List Msg} (h : l.length ≤ 1000) : segE (footS l) = 0 := by
  refine row_good rfl (by simp) fun n hn => ?_
  simp only [List.mem_cons, List.not_mem_nil, or_false] at hn
  have := check_small (innerB l)
  rcases hn with rfl | rfl <;> (simp [amB]; omega)
theorem enc_inj {s t : Seg} (hs : segE s = 0) (ht : segE t = 0) (h : encS s = encS t) : s = t := by
  have e1 := next_enc hs []
  have e2 := next_enc ht []
  rw [h, e2] at e1
  exact (Prod.mk.inj e1).1.symm
theorem foot_sum {l k : List Msg} (hl : l.length ≤ 1000) (hk : k.length ≤ 1000) (h : encS (footS l) = encS (footS k)) : checkV (innerB l) = checkV (innerB k) := by
  have e := congrArg Seg.els (enc_inj (foot_seg hl) (foot_seg hk) h)
  unfold footS rowS at e
  simp only [List.map_cons, List.map_nil, elS_itoa, List.cons.injEq, and_true] at e
  have c1 := check_small (innerB l)
  have c2 := check_small (innerB k)
  have n1 := num_itoa (n := (checkV (innerB l) : Int)) (by simp [amB]; omega)
  have n2 := num_itoa (n := (checkV (innerB k) : Int)) (by simp [amB]; omega)
  rw [e.2, n2] at n1
  omega
/-- A packed interchange with a single byte changed is no packed interchange with the same head. -/
theorem single {x y : Inter} (hx : ∀ m ∈ x.msgs, msgE m = 0) (hy : ∀ m ∈ y.msgs, msgE m = 0) (lx : x.msgs.length ≤ 1000) (ly : y.msgs.length ≤ 1000) (hh : headS x = headS y) {k : Nat} {c : UInt8} (hk : k < (packB x).length) (hc : c ≠ (packB x)[k]'hk) : (packB x).set k c ≠ packB y := by
  intro he
  have ho := OneOff.set (packB x) k c
  have hne : packB x ≠ packB y := by
    intro e
    rw [← e] at he
    have h1 : ((packB x).set k c)[k]? = (packB x)[k]? := by rw [he]
    rw [List.getElem?_set_self hk, List.getElem?_eq_getElem hk] at h1
    exact hc (Option.some.inj h1)
  rw [he] at ho
  rw [pack_split, pack_split, hh] at ho hne
  have ho2 := ho.drop
  have l1 := foot_len ho2 (flat_closed _) (foot_ok _) (foot_ok _)
  have l2 := foot_len ho2.symm (flat_closed _) (foot_ok _) (foot_ok _)
  have hlen : (innerB x.msgs).length = (innerB y.msgs).length := by
    have a1 : ¬ (innerB x.msgs).length < (innerB y.msgs).length := l1
    have a2 : ¬ (innerB y.msgs).length < (innerB x.msgs).length := l2
    omega
  by_cases hI : innerB x.msgs = innerB y.msgs
  · have hM := inner_inj hx hy hI
    have hn : x.msgs.length = y.msgs.length := by rw [← inner_count, ← inner_count, hM]
    exact hne (by rw [hI]; unfold footS; rw [hI, hn])
  · obtain ⟨i, hi⟩ : ∃ i : Nat, (innerB x.msgs)[i]? ≠ (innerB y.msgs)[i]? := by
      rcases Classical.em (∃ i : Nat, (innerB x.msgs)[i]? ≠ (innerB y.msgs)[i]?) with h | h
      · exact h
      · exact absurd (List.ext_getElem? (fun (i : Nat) => Classical.byContradiction (fun hi : ¬ (innerB x.msgs)[i]? = (innerB y.msgs)[i]? => h ⟨i, hi⟩))) hI
    have hil : i < (innerB x.msgs).length := by
      rcases Nat.lt_or_ge i (innerB x.msgs).length with h | h
      · exact h
      · exact absurd (by rw [List.getElem?_eq_none h, List.getElem?_eq_none (by omega)]) hi
    have only : ∀ j, (innerB x.msgs ++ encS (footS x.msgs))[j]? ≠ (innerB y.msgs ++ encS (footS y.msgs))[j]? → j = i := fun j hj =>
      ho2.2 j i hj (by rw [List.getElem?_append_left hil, List.getElem?_append_left (by omega)]; exact hi)
    have hfoot : encS (footS x.msgs) = encS (footS y.msgs) := List.ext_getElem? fun j => Classical.byContradiction fun hj => by
      have := only ((innerB x.msgs).length + j) (by
        rw [List.getElem?_append_right (by omega), List.getElem?_append_right (by omega), Nat.add_sub_cancel_left, hlen, Nat.add_sub_cancel_left]
        exact hj)
      omega
    have hset : innerB y.msgs = (innerB x.msgs).set i ((innerB y.msgs)[i]'(by omega)) := List.ext_getElem? fun j => by
      rcases Decidable.em (i = j) with rfl | h
      · rw [List.getElem?_set_self hil, List.getElem?_eq_getElem (by omega)]
      · rw [List.getElem?_set_ne h]
        refine Classical.byContradiction fun hj => h ?_
        have hjl : j < (innerB x.msgs).length := by
          rcases Nat.lt_or_ge j (innerB x.msgs).length with h | h
          · exact h
          · exact absurd (by rw [List.getElem?_eq_none h, List.getElem?_eq_none (by omega)]) hj
        exact (only j (by rw [List.getElem?_append_left hjl, List.getElem?_append_left (by omega)]; exact Ne.symm hj)).symm
    have hs := foot_sum lx ly hfoot
    have := (check_set (innerB x.msgs) i hil ((innerB y.msgs)[i]'(by omega))).1 (by rw [← hset, hs])
    exact hi (by rw [List.getElem?_eq_getElem hil, List.getElem?_eq_getElem (by omega), this])
end Go.Proofs.YtepkihoakagidaaDoor
namespace Go.Proofs.YtepkihoakagidaaDoor

def endS (s : Seg) : Bool := decide (s.tag = tEND ∧ s.els.length = 2)
/-- The messages, one by one: the segments since the last one, those to come, the messages so far. -/
def goU : List Seg → List Seg → List Msg → Option (List Seg × List Msg)
  | pend, [], acc => some (pend, acc)
  | pend, s :: r, acc =>
    if endS s then
      (if (parseF (pend ++ [⟨tEND, [elS (Lib.itoa ((pend.length : Int) + 1)), s.els.getD 1 []]⟩])).2 = 0 then
        goU [] r (acc ++ [(parseF (pend ++ [⟨tEND, [elS (Lib.itoa ((pend.length : Int) + 1)), s.els.getD 1 []]⟩])).1]) else none)
    else goU (pend ++ [s]) r acc
def framed (l : List Seg) : Bool := decide (2 ≤ l.length ∧ (l.headD noSeg).tag = tUNB ∧ (l.getLastD noSeg).tag = tUNZ ∧ (l.getLastD noSeg).els.length = 2)
def readU (l : List Seg) (ms : List Msg) : Inter := ⟨numF (atF (l.headD noSeg) 0), numF (atF (l.headD noSeg) 1), numF (atF (l.headD noSeg) 2), ms⟩
/-- What Unpack makes of segments. -/
def unseg (b : List UInt8) (l : List Seg) : Inter × Int :=
  if framed l then
    match goU [] l.tail.dropLast [] with
    | none => (noInter, 4)
    | some (pend, ms) => if pend = [] ∧ packE (readU l ms) = 0 ∧ headS (readU l ms) = l.headD noSeg then (if packB (readU l ms) = b then (readU l ms, 0) else (noInter, 11)) else (noInter, 4)
  else (noInter, 4)
def unpackF (b : List UInt8) : Inter × Int := if (decF b.length b 0 []).2.2 = 0 then unseg b (decF b.length b 0 []).1 else (noInter, (decF b.length b 0 []).2.2)
theorem unpack_ok {b : List UInt8} (h : (unpackF b).2 = 0) : packE (unpackF b).1 = 0 ∧ packB (unpackF b).1 = b := by
  unfold unpackF at *
  split at h
  · rename_i h0
    rw [if_pos h0]
    unfold unseg at *
    split at h
    · rename_i h1
      rw [if_pos h1]
      split at h
      · cases h
      · rename_i pend ms hg
        split at h
        · rename_i h2
          rw [if_pos h2]
          split at h
          · rename_i h3
            rw [if_pos h3]
            exact ⟨h2.2.1, h3⟩
          · cases h
        · cases h
    · cases h
  · rename_i h0
    exact absurd h h0
theorem goU_front (r : List Seg) (acc : List Msg) : ∀ (l pend : List Seg), (∀ s ∈ l, endS s = false) → goU pend (l ++ r) acc = goU (pend ++ l) r acc
  | [], pend, _ => by rw [List.nil_append, List.append_nil]
  | s :: l, pend, h => by
    show (if endS s then _ else goU (pend ++ [s]) (l ++ r) acc) = _
    rw [if_neg (by rw [h s (List.mem_cons_self ..)]; simp), goU_front r acc l _ fun t ht => h t (List.mem_cons_of_mem _ ht)]
    simp
theorem front_not (m : Msg) : ∀ s ∈ frontS m, endS s = false := by
  intro s hs
  have h0 := List.countP_eq_zero.1 (front_end m) s hs
  unfold endS
  rw [decide_eq_false_iff_not]
  rintro ⟨h1, _⟩
  exact h0 (by unfold isEnd; rw [beq_iff_eq]; exact h1)
theorem goU_msg {m : Msg} (h : msgE m = 0) (r : List Seg) (acc : List Msg) : goU [] (segsM m ++ r) acc = goU [] r (acc ++ [m]) := by
  have hp := parse_segs h
  unfold segsM at hp ⊢
  rw [List.append_assoc, goU_front _ _ _ _ (front_not m), List.nil_append]
  show (if endS (rowS tEND [((frontS m).length : Int) + 1, m.num]) then _ else _) = _
  rw [if_pos (show endS (rowS tEND [((frontS m).length : Int) + 1, m.num]) = true by unfold endS; rw [decide_eq_true_iff]; exact ⟨rfl, rfl⟩)]
  have e : (⟨tEND, [elS (Lib.itoa (((frontS m).length : Int) + 1)), (rowS tEND [((frontS m).length : Int) + 1, m.num]).els.getD 1 []]⟩ : Seg) = rowS tEND [((frontS m).length : Int) + 1, m.num] := rfl
  rw [e, hp, if_pos rfl]
  rfl
theorem goU_all : ∀ (l acc : List Msg), (∀ m ∈ l, msgE m = 0) → goU [] (innerM l) acc = some ([], acc ++ l)
  | [], acc, _ => by rw [List.append_nil]; rfl
  | m :: l, acc, h => by
    show goU [] (segsM m ++ innerM l) acc = _
    rw [goU_msg (h m (List.mem_cons_self ..)), goU_all l _ fun k hk => h k (List.mem_cons_of_mem _ hk)]
    simp
theorem pack_ok {x : Inter} (h : packE x = 0) : inB x.snd_ 999 = true ∧ inB x.rcv 999 = true ∧ inB x.num 1000000000 = true ∧ x.msgs.length ≤ 1000 ∧ ∀ m ∈ x.msgs, msgE m = 0 := by
  unfold packE at h
  split at h
  · rename_i h1
    simp only [Bool.and_eq_true] at h1
    split at h
    · rename_i h2
      refine ⟨h1.1, h1.2.1, h1.2.2, h2, fun m hm => ?_⟩
      split at h
      · rename_i n hn
        have := List.find?_some hn
        rw [bne_iff_ne] at this
        exact absurd h this
      · rename_i hn
        have := List.find?_eq_none.1 hn m hm
        simpa using this
    · cases h
  · cases h
/-- What was packed is unpacked. -/
theorem unpack_pack {x : Inter} (h : packE x = 0) : unpackF (packB x) = (x, 0) := by
  obtain ⟨h1, h2, h3, h4, h5⟩ := pack_ok h
  have m1 := inB_am h1 (by omega)
  have m2 := inB_am h2 (by omega)
  have m3 := inB_am h3 (by omega)
  have hall : ∀ s ∈ packS x, segE s = 0 := by
    intro s hs
    unfold packS at hs
    rcases List.mem_append.1 hs with hs | hs
    · rcases List.mem_append.1 hs with hs | hs
      · rw [List.mem_singleton.1 hs]
        refine row_good rfl (by simp) fun n hn => ?_
        simp only [List.mem_cons, List.not_mem_nil, or_false] at hn
        rcases hn with rfl | rfl | rfl <;> assumption
      · exact inner_ok h5 s hs
    · rw [List.mem_singleton.1 hs]
      exact foot_seg h4
  have hd := dec_enc (packS x) (packB x).length 0 [] hall (Nat.le_refl _)
  rw [show (packS x).flatMap encS = packB x from rfl, List.nil_append, Nat.zero_add] at hd
  unfold unpackF
  rw [hd, if_pos rfl]
  have hh : (packS x).headD noSeg = headS x := rfl
  have hlast : (packS x).getLastD noSeg = footS x.msgs := by
    unfold packS
    rw [List.getLastD_eq_getLast?, List.getLast?_append]
    rfl
  have hmid : (packS x).tail.dropLast = innerM x.msgs := by
    show (innerM x.msgs ++ [footS x.msgs]).dropLast = _
    rw [List.dropLast_concat]
  have hread : readU (packS x) x.msgs = x := by
    unfold readU
    rw [hh]
    unfold headS rowS atF
    simp only [List.map_cons, List.map_nil, elS_itoa, List.getD_cons_zero, List.getD_cons_succ, num_itoa m1, num_itoa m2, num_itoa m3]
  have hfr : framed (packS x) = true := by
    unfold framed
    rw [hh, hlast, decide_eq_true_iff]
    refine ⟨?_, rfl, rfl, rfl⟩
    unfold packS
    simp
  unfold unseg
  rw [if_pos hfr, hmid, goU_all x.msgs [] h5]
  simp only [List.nil_append]
  rw [hread, if_pos ⟨trivial, h, hh.symm⟩, if_pos rfl]
/-- A packed interchange with a single byte changed is not unpacked with the same head. -/
theorem unpack_single {x : Inter} (h : packE x = 0) {k : Nat} {c : UInt8} (hk : k < (packB x).length) (hc : c ≠ (packB x)[k]'hk) (he : (unpackF ((packB x).set k c)).2 = 0) :
    ¬ ((unpackF ((packB x).set k c)).1.snd_ = x.snd_ ∧ (unpackF ((packB x).set k c)).1.rcv = x.rcv ∧ (unpackF ((packB x).set k c)).1.num = x.num) := by
  rintro ⟨e1, e2, e3⟩
  obtain ⟨p1, p2⟩ := unpack_ok he
  obtain ⟨_, _, _, a1, a2⟩ := pack_ok h
  obtain ⟨_, _, _, b1, b2⟩ := pack_ok p1
  exact single a2 b2 a1 b1 (by unfold headS; rw [e1, e2, e3]) hk hc p2.symm
end Go.Proofs.YtepkihoakagidaaDoor
namespace Go.Proofs.YtepkihoakagidaaDoor
open Go.RowKit

def segB (s t : Seg) : Bool := (s.tag == t.tag) && (s.els == t.els)
theorem segB_iff (s t : Seg) : segB s t = true ↔ s = t := by
  obtain ⟨a, b⟩ := s
  obtain ⟨c, d⟩ := t
  simp [segB]
def segsB : List Seg → List Seg → Bool
  | [], [] => true
  | s :: L, t :: M => segB s t && segsB L M
  | _, _ => false
theorem segsB_iff : ∀ L M : List Seg, segsB L M = true ↔ L = M
  | [], [] => by simp [segsB]
  | [], _ :: _ => by simp [segsB]
  | _ :: _, [] => by simp [segsB]
  | s :: L, t :: M => by
    show (segB s t && segsB L M) = true ↔ _
    rw [Bool.and_eq_true, segB_iff, segsB_iff L M]
    simp
theorem segsB_false {L M : List Seg} (h : L ≠ M) : segsB L M = false := by
  rw [← Bool.not_eq_true, segsB_iff]
  exact h
theorem snoc_eq {α : Type} {l m : List α} {i : Nat} {a b : α} (h : l.take i = m.take i) (h1 : l[i]? = some a) (h2 : m[i]? = some b) (hab : a = b) : l.take (i + 1) = m.take (i + 1) := by
  rw [List.take_add_one, List.take_add_one, h, h1, h2, hab]
theorem take_all_eq {α : Type} {l m : List α} (hl : l.length = m.length) (h : l.take l.length = m.take l.length) : l = m := by
  rw [List.take_length] at h
  rw [hl, List.take_length] at h
  exact h
theorem at_ne {α : Type} {l m : List α} {i : Nat} {a b : α} (h1 : l[i]? = some a) (h2 : m[i]? = some b) (h : a ≠ b) : l ≠ m := fun e => h (by rw [e, h2] at h1; exact (Option.some.inj h1).symm)

set_option maxRecDepth 100000 in
set_option maxHeartbeats 6400000 in
theorem refSameB_any (v1 v2 : Value) (L M : List Seg) (w : World) (h1 : SegsIn (Has_ w) w v1 L) (h2 : SegsIn (Has_ w) w v2 M) :
    Calls Tryd.prog 19 #[v1, v2] w fun e w' => e = .returned (.bool (segsB L M)) ∧ ∃ m, w' = w.drewN m := by
  obtain ⟨a1, cap1, rfl, hL, f1⟩ := h1.form
  obtain ⟨a2, cap2, rfl, hM, f2⟩ := h2.form
  have F1 := Lib.hid f1
  have F2 := Lib.hid f2
  clear h1 h2 f1 f2
  have hLb : L.length ≤ 9223372036854775807 := by unfold maxLen at hL; omega
  have hMb : M.length ≤ 9223372036854775807 := by unfold maxLen at hM; omega
  have hno : Hid (L ≠ M → segsB L M = false) := Lib.hid segsB_false
  have hyes : Hid (L = M → segsB L M = true) := Lib.hid (fun h => (segsB_iff L M).2 h)
  generalize segsB L M = R at *
  by_cases hlm : L.length = M.length
  rotate_left
  have hr := hno.out (fun e => hlm (by rw [e]))
  subst hr
  have dl : ((L.length : Int) != (M.length : Int)) = true := by rw [bne_iff_ne]; omega
  clear hno hyes F1 F2 hlm
  go_enter Tryd.func19, Tryd.ntmps19
  go_wp2_with fail
  go_ret
  exact ⟨rfl, 0, rfl⟩
  have dl : ((L.length : Int) != (M.length : Int)) = false := by rw [bne_eq_false_iff_eq]; omega
  have hlm2 := Lib.hid hlm
  clear hlm
  go_enter Tryd.func19, Tryd.ntmps19
  go_wp2_with fail
  go_loopw [5] (fun vi wx => ∃ i : Nat, vi = .int .i64 i ∧ i ≤ L.length ∧ Hid (L.take i = M.take i) ∧ ∃ m, wx = w.drewN m) (fun vi _ => L.length - (intOf vi).toNat)
  case atStart => exact ⟨0, by go_num, by omega, Lib.hid rfl, 0, rfl⟩
  case round =>
    obtain ⟨i, rfl, hi, hP, m, rfl⟩ := hrel
    by_cases hlt : i < L.length
    · have d1 : decide ((i : Int) < (L.length : Int)) = true := decide_eq_true (by omega)
      obtain ⟨s, hs⟩ : ∃ s, L[i]? = some s := ⟨_, List.getElem?_eq_getElem hlt⟩
      obtain ⟨t, ht⟩ : ∃ t, M[i]? = some t := ⟨_, List.getElem?_eq_getElem (by have := hlm2.out; omega)⟩
      obtain ⟨b1, u1, rfl, t1, e1, x1, _⟩ := F1.out i s hs
      obtain ⟨b2, u2, rfl, t2, e2, x2, _⟩ := F2.out i t ht
      obtain ⟨o1, c1, rfl, hE, g1⟩ := x1.form
      obtain ⟨o2, c2, rfl, hE2, g2⟩ := x2.form
      have G1 := Lib.hid g1
      have G2 := Lib.hid g2
      unfold strV at t1 t2
      have hEb : s.els.length ≤ 9223372036854775807 := by unfold maxLen at hE; omega
      have hEb2 : t.els.length ≤ 9223372036854775807 := by unfold maxLen at hE2; omega
      have hsn := Lib.hid (fun e => snoc_eq hP.out hs ht e)
      have hne := Lib.hid (fun e => hno.out (at_ne hs ht e))
      obtain ⟨p1, hp1⟩ : ∃ p, b1.add (i * 2) = p := ⟨_, rfl⟩
      obtain ⟨p2, hp2⟩ : ∃ p, b2.add (i * 2) = p := ⟨_, rfl⟩
      rw [hp1] at t1 e1
      rw [hp2] at t2 e2
      have j1 : (0 : Int) ≤ (i : Int) := by omega
      have j2 : (i : Int) < (L.length : Int) := by omega
      have j2' : (i : Int) < (M.length : Int) := by have := hlm2.out; omega
      clear F1 F2 x1 x2 g1 g2 hs ht
      by_cases htag : s.tag = t.tag
      rotate_left
      have hr := hne.out (fun e => htag (by rw [e]))
      subst hr
      have q1 : (s.tag == t.tag) = false := by rw [beq_eq_false_iff_ne]; exact htag
      clear G1 G2 hsn hne hno hyes htag
      go_wp2_with fail
      go_quiet (fail)
      go_wp2_with fail
      go_ret
      exact ⟨rfl, _, by first | exact World.drewN_drewN _ _ _ | rfl⟩
      have q1 : (s.tag == t.tag) = true := by rw [beq_iff_eq]; exact htag
      by_cases hels : s.els.length = t.els.length
      rotate_left
      have hr := hne.out (fun e => hels (by rw [e]))
      subst hr
      have q2 : ((s.els.length : Int) != (t.els.length : Int)) = true := by rw [bne_iff_ne]; omega
      clear G1 G2 hsn hne hno hyes hels
      go_wp2_with fail
      go_quiet (fail)
      go_wp2_with fail
      go_ret
      exact ⟨rfl, _, by first | exact World.drewN_drewN _ _ _ | rfl⟩
      have q2 : ((s.els.length : Int) != (t.els.length : Int)) = false := by rw [bne_eq_false_iff_eq]; omega
      have hels2 := Lib.hid hels
      have htag2 := Lib.hid htag
      clear hels htag
      have hne2 := Lib.hid (fun e : s.els ≠ t.els => hne.out (fun h => e (by rw [h])))
      have hsn2 := Lib.hid (fun e : s.els = t.els => hsn.out (by obtain ⟨sa, sb⟩ := s; obtain ⟨ta, tb⟩ := t; cases e; cases htag2.out; rfl))
      clear hsn hne hno hyes
      go_wp2_with fail
      go_quiet (fail)
      go_wp2_with fail
      go_loopw [6] (fun vk wx => ∃ k : Nat, vk = .int .i64 k ∧ k ≤ s.els.length ∧ Hid (s.els.take k = t.els.take k) ∧ ∃ m, wx = w.drewN m) (fun vk _ => s.els.length - (intOf vk).toNat)
      case atStart => exact ⟨0, by go_num, by omega, Lib.hid rfl, _, by first | exact World.drewN_drewN _ _ _ | rfl⟩
      case round =>
        obtain ⟨k, rfl, hk, hP2, m2, rfl⟩ := hrel
        by_cases hlk : k < s.els.length
        · have d2 : decide ((k : Int) < (s.els.length : Int)) = true := decide_eq_true (by omega)
          obtain ⟨e, he⟩ : ∃ e, s.els[k]? = some e := ⟨_, List.getElem?_eq_getElem hlk⟩
          obtain ⟨f, hf⟩ : ∃ f, t.els[k]? = some f := ⟨_, List.getElem?_eq_getElem (by have := hels2.out; omega)⟩
          obtain ⟨b3, u3, rfl, y1, z1⟩ := G1.out k e he
          obtain ⟨b4, u4, rfl, y2, z2⟩ := G2.out k f hf
          obtain ⟨o3, c3, rfl, hX, g3⟩ := z1.form
          obtain ⟨o4, c4, rfl, hX2, g4⟩ := z2.form
          have G3 := Lib.hid g3
          have G4 := Lib.hid g4
          have hXb : e.length ≤ 9223372036854775807 := by unfold maxLen at hX; omega
          have hXb2 : f.length ≤ 9223372036854775807 := by unfold maxLen at hX2; omega
          have hsn3 := Lib.hid (fun q => snoc_eq hP2.out he hf q)
          have hne3 := Lib.hid (fun q => hne2.out (at_ne he hf q))
          have j3 : (0 : Int) ≤ (k : Int) := by omega
          have j4 : (k : Int) < (s.els.length : Int) := by omega
          have j4' : (k : Int) < (t.els.length : Int) := by have := hels2.out; omega
          clear G1 G2 z1 z2 g3 g4 he hf
          by_cases hlen : e.length = f.length
          rotate_left
          have hr := hne3.out (fun q => hlen (by rw [q]))
          subst hr
          have q3 : ((e.length : Int) != (f.length : Int)) = true := by rw [bne_iff_ne]; omega
          clear G3 G4 hsn2 hne2 hsn3 hne3 hlen
          go_wp2_with fail
          go_quiet (fail)
          go_wp2_with fail
          go_ret
          exact ⟨rfl, _, by first | exact World.drewN_drewN _ _ _ | rfl⟩
          have q3 : ((e.length : Int) != (f.length : Int)) = false := by rw [bne_eq_false_iff_eq]; omega
          have hlen2 := Lib.hid hlen
          clear hlen hne2 hsn2
          go_wp2_with fail
          go_quiet (fail)
          go_wp2_with fail
          go_loopw [9] (fun vj wx => ∃ j : Nat, vj = .int .i64 j ∧ j ≤ e.length ∧ Hid (e.take j = f.take j) ∧ ∃ m, wx = w.drewN m) (fun vj _ => e.length - (intOf vj).toNat)
          case atStart => exact ⟨0, by go_num, by omega, Lib.hid rfl, _, by first | exact World.drewN_drewN _ _ _ | rfl⟩
          case round =>
            obtain ⟨j, rfl, hj, hP3, m3, rfl⟩ := hrel
            by_cases hlj : j < e.length
            · have d3 : decide ((j : Int) < (e.length : Int)) = true := decide_eq_true (by omega)
              obtain ⟨x, hx⟩ : ∃ x, e[j]? = some x := ⟨_, List.getElem?_eq_getElem hlj⟩
              obtain ⟨y, hy⟩ : ∃ y, f[j]? = some y := ⟨_, List.getElem?_eq_getElem (by have := hlen2.out; omega)⟩
              obtain ⟨b5, rfl, x1, _⟩ := G3.out j x hx
              obtain ⟨b6, rfl, x2, _⟩ := G4.out j y hy
              unfold strV at x1 x2
              have j5 : (0 : Int) ≤ (j : Int) := by omega
              have j6 : (j : Int) < (e.length : Int) := by omega
              have j6' : (j : Int) < (f.length : Int) := by have := hlen2.out; omega
              by_cases hxy : x = y
              · have hsn4 := snoc_eq hP3.out hx hy hxy
                have hsn5 := Lib.hid hsn4
                have q4 : (x == y) = true := by rw [beq_iff_eq]; exact hxy
                clear G3 G4 hsn3 hne3 hsn4 hx hy hxy
                go_wp2_with fail
                go_quiet (fail)
                go_wp2_with fail
                go_roundw
                case rel => exact ⟨j + 1, by go_num, by omega, hsn5, _, by first | exact World.drewN_drewN _ _ _ | rfl⟩
                case measure => simp [intOf]; omega
              · have hr := hne3.out (at_ne hx hy hxy)
                subst hr
                have q4 : (x == y) = false := by rw [beq_eq_false_iff_ne]; exact hxy
                clear G3 G4 hsn3 hne3 hx hy hxy
                go_wp2_with fail
                go_quiet (fail)
                go_wp2_with fail
                go_ret
                exact ⟨rfl, _, by first | exact World.drewN_drewN _ _ _ | rfl⟩
            · obtain rfl : j = e.length := by omega
              have d3 : decide ((e.length : Int) < (e.length : Int)) = false := decide_eq_false (by omega)
              have hsn6 := Lib.hid (hsn3.out (take_all_eq hlen2.out hP3.out))
              clear G3 G4 hsn3 hne3
              go_wp2_with fail
              case roundEnd => exact ⟨⟨k + 1, by go_num, by omega, hsn6, m3, rfl⟩, by simp [intOf]; omega⟩
        · obtain rfl : k = s.els.length := by omega
          have d2 : decide ((s.els.length : Int) < (s.els.length : Int)) = false := decide_eq_false (by omega)
          have hsn7 := Lib.hid (hsn2.out (take_all_eq hels2.out hP2.out))
          clear hsn2 hne2
          go_wp2_with fail
          case roundEnd => exact ⟨⟨i + 1, by go_num, by omega, hsn7, m2, rfl⟩, by simp [intOf]; omega⟩
    · obtain rfl : i = L.length := by omega
      have hr := hyes.out (take_all_eq hlm2.out hP.out)
      subst hr
      have d1 : decide ((L.length : Int) < (L.length : Int)) = false := decide_eq_false (by omega)
      clear F1 F2
      go_wp2_with fail
      go_ret
      exact ⟨rfl, m, rfl⟩
end Go.Proofs.YtepkihoakagidaaDoor
namespace Go.Proofs.YtepkihoakagidaaDoor
open Go.RowKit

set_option maxRecDepth 100000 in
set_option maxHeartbeats 3200000 in
theorem refSameL_any (v1 v2 : Value) (l k : List Int) (w : World) (h1 : NumsIn (Has_ w) w v1 l) (h2 : NumsIn (Has_ w) w v2 k) :
    Calls Tryd.prog 51 #[v1, v2] w fun e w' => e = .returned (.bool (l == k)) ∧ ∃ m, w' = w.drewN m := by
  obtain ⟨a1, cap1, rfl, hL, f1⟩ := h1.form
  obtain ⟨a2, cap2, rfl, hM, f2⟩ := h2.form
  have F1 := Lib.hid f1
  have F2 := Lib.hid f2
  clear h1 h2 f1 f2
  have hLb : l.length ≤ 9223372036854775807 := by unfold maxLen at hL; omega
  have hMb : k.length ≤ 9223372036854775807 := by unfold maxLen at hM; omega
  have hno : Hid (l ≠ k → (l == k) = false) := Lib.hid (fun h => by rw [beq_eq_false_iff_ne]; exact h)
  have hyes : Hid (l = k → (l == k) = true) := Lib.hid (fun h => by rw [beq_iff_eq]; exact h)
  generalize (l == k) = R at *
  by_cases hlm : l.length = k.length
  rotate_left
  have hr := hno.out (fun e => hlm (by rw [e]))
  subst hr
  have dl : ((l.length : Int) != (k.length : Int)) = true := by rw [bne_iff_ne]; omega
  clear hno hyes F1 F2 hlm
  go_enter Tryd.func51, Tryd.ntmps51
  go_wp2_with fail
  go_ret
  exact ⟨rfl, 0, rfl⟩
  have dl : ((l.length : Int) != (k.length : Int)) = false := by rw [bne_eq_false_iff_eq]; omega
  have hlm2 := Lib.hid hlm
  clear hlm
  go_enter Tryd.func51, Tryd.ntmps51
  go_wp2_with fail
  go_loopw [5] (fun vi wx => ∃ i : Nat, vi = .int .i64 i ∧ i ≤ l.length ∧ Hid (l.take i = k.take i) ∧ ∃ m, wx = w.drewN m) (fun vi _ => l.length - (intOf vi).toNat)
  case atStart => exact ⟨0, by go_num, by omega, Lib.hid rfl, 0, rfl⟩
  case round =>
    obtain ⟨i, rfl, hi, hP, m, rfl⟩ := hrel
    by_cases hlt : i < l.length
    · have d1 : decide ((i : Int) < (l.length : Int)) = true := decide_eq_true (by omega)
      obtain ⟨x, hx⟩ : ∃ x, l[i]? = some x := ⟨_, List.getElem?_eq_getElem hlt⟩
      obtain ⟨y, hy⟩ : ∃ y, k[i]? = some y := ⟨_, List.getElem?_eq_getElem (by have := hlm2.out; omega)⟩
      obtain ⟨b1, rfl, t1⟩ := F1.out i x hx
      obtain ⟨b2, rfl, t2⟩ := F2.out i y hy
      have j1 : (0 : Int) ≤ (i : Int) := by omega
      have j2 : (i : Int) < (l.length : Int) := by omega
      have j2' : (i : Int) < (k.length : Int) := by have := hlm2.out; omega
      by_cases hxy : x = y
      · have hsn := Lib.hid (snoc_eq hP.out hx hy hxy)
        have q1 : (x != y) = false := by rw [bne_eq_false_iff_eq]; exact hxy
        clear F1 F2 hx hy hxy hP
        go_wp2_with fail
        go_quiet (fail)
        go_wp2_with fail
        go_roundw
        case rel => exact ⟨i + 1, by go_num, by omega, hsn, _, by first | exact World.drewN_drewN _ _ _ | rfl⟩
        case measure => simp [intOf]; omega
      · have hr := hno.out (at_ne hx hy hxy)
        subst hr
        have q1 : (x != y) = true := by rw [bne_iff_ne]; exact hxy
        clear F1 F2 hx hy hxy hP hyes hno
        go_wp2_with fail
        go_quiet (fail)
        go_wp2_with fail
        go_ret
        exact ⟨rfl, _, by first | exact World.drewN_drewN _ _ _ | rfl⟩
    · obtain rfl : i = l.length := by omega
      have hr := hyes.out (take_all_eq hlm2.out hP.out)
      subst hr
      have d1 : decide ((l.length : Int) < (l.length : Int)) = false := decide_eq_false (by omega)
      clear F1 F2 hP hyes hno
      go_wp2_with fail
      go_ret
      exact ⟨rfl, m, rfl⟩
end Go.Proofs.YtepkihoakagidaaDoor
namespace Go.Proofs.YtepkihoakagidaaDoor
open Go.RowKit

/-- The encoding so far. -/
structure EncAt (w wx : World) (v u : Value) (L : List Seg) (l : List UInt8) : Prop where
  row : ByteRow wx w.heap.size 5 u l
  segs : SegsIn (Has_ w) wx v L
  below : Below w.heap.size w wx
theorem EncAt.keep {w wx w1 : World} {v u : Value} {L : List Seg} {l : List UInt8} (h : EncAt w wx v u L l) (hb : Below wx.heap.size wx w1) : EncAt w w1 v u L l :=
  ⟨h.row.keep hb, h.segs.keep fun _ hh => ⟨hh, hb.block _ (Nat.lt_of_lt_of_le hh h.below.size)⟩, h.below.trans (hb.mono h.below.size)⟩
theorem EncAt.grown {w wx w1 : World} {v u u1 : Value} {L : List Seg} {l l1 : List UInt8} (h : EncAt w wx v u L l) (hr : ByteRow w1 w.heap.size 5 u1 l1) (hg : wx.grownBy w1 u.ownBlock) : EncAt w w1 v u1 L l1 := by
  have hz := h.below.size
  have hbl : ∀ b, b < w.heap.size → w1.heap[b]? = wx.heap[b]? := fun b hb => hg.block b (by omega) (fun e => by
    have := (h.row.lt b e.symm).1
    omega)
  exact ⟨hr, h.segs.keep fun b hb => ⟨hb, hbl b hb⟩, hg.os.trans h.below.os, hg.tape.trans h.below.tape, hg.output.trans h.below.output, Nat.le_trans hz hg.size, fun b hb => (hbl b hb).trans (h.below.block b hb)⟩
/-- What a call on a segment of the list needs. -/
theorem EncAt.els {w wx : World} {v u : Value} {L : List Seg} {l : List UInt8} (h : EncAt w wx v u L l) {E : List (List (List UInt8))} {x : Value} (hE : ElemsIn (Has_ w) wx x E) : ElemsIn (Has_ wx) wx x E :=
  hE.keep fun _ hb => ⟨Nat.lt_of_lt_of_le hb h.below.size, rfl⟩

end Go.Proofs.YtepkihoakagidaaDoor
namespace Go.Proofs.YtepkihoakagidaaDoor
open Go.RowKit

theorem wpList_append_opt {P : Program} {ops : Array Oper} {rest : List Oper} {o : Oper} {a : Act} {w : World} {Q : Exit → Act → World → Prop}
    (hg : o.guard = none) (s x : Operand) (t : TypeId) (hop : o.op = Op.call { callee := Callee.builtin Builtin.append, args := #[s, x], argTypes := #[t, t] })
    (base : Nat) (e : TypeId) (i : TypeInfo) (z : Value) (size bytes : Nat) (h1 : P.underlying t = some (.slice e)) (h2 : P.info? e = some i) (h3 : i.zero = some z) (h4 : i.size = size) (h5 : i.bytes = bytes) (h6 : z.cells.size = size) (h7 : 0 < size)
    (v : Value) (n : Nat) (xs : List Value) (hs : a.eval s = v) (hown : w.ownsRow base e size v n xs) (hbase : base ≤ w.heap.size)
    (ao : Option Addr) (m c : Nat) (news : List Value) (hx : a.eval x = .slice ao m c) (hn : news.length = m * size) (hnone : ao = none → m = 0 ∧ c = 0)
    (hc : ∀ ad, ao = some ad → ∀ j u, news[j]? = some u → w.cell? (ad.add j) = some u) (h1c : ∀ u ∈ news, u.oneCell' = true) (b1 : n + m ≤ maxLen) (b2 : (n + m) * bytes ≤ 140737488355328)
    (hK : ∀ v' w', w'.ownsRow base e size v' (n + m) (xs ++ news) → w.grownBy w' v.ownBlock → wpList P ops Q rest (a.put o.dst v') w') : wpList P ops Q (o :: rest) a w := by
  refine wpList_plain hg fun K hK' => ?_
  cases ao with
  | some ad =>
    obtain ⟨v', w', hrun, r1, r2, _⟩ := run_append_own (P := P) w base t o.type e i z size bytes h1 h2 h3 h4 h5 h6 h7 v n xs hown ad m c news hn (hc ad rfl) h1c b1 b2 hbase
    unfold Oper.wp
    simp [execOp, hop, resolve, invoke, builtin, hs, hx, hrun, Result.andThen]
    exact hK' _ _ (hK v' w' r1 r2)
  | none =>
    obtain ⟨rfl, rfl⟩ := hnone rfl
    obtain rfl : news = [] := List.eq_nil_of_length_eq_zero (by simpa using hn)
    have hrun := run_append_owned_none (P := P) (w := w) base t o.type e i size h1 h2 v n xs hown
    unfold Oper.wp
    simp [execOp, hop, resolve, invoke, builtin, hs, hx, hrun, Result.andThen]
    exact hK' _ _ (hK v w (by simpa using hown) ⟨rfl, rfl, rfl, Nat.le_refl _, fun _ _ _ => rfl⟩)
theorem bytes_of {w : World} {ao : Option Addr} {n cap : Nat} {b : List UInt8} (h : BytesIn (Has_ w) w (.slice ao n cap) b) : (∀ ad, ao = some ad → ∀ j u, (b.map byteV)[j]? = some u → w.cell? (ad.add j) = some u) ∧ (ao = none → n = 0 ∧ cap = 0) := by
  obtain ⟨_, ⟨h1, h2⟩ | ⟨a, cap2, h2, _, _, _, h5⟩⟩ := h
  · injection h1 with e1 e2 e3
    subst e1 e2 e3
    exact ⟨fun ad had => (by cases had), fun _ => ⟨rfl, rfl⟩⟩
  · injection h2 with e1 e2 e3
    subst e1
    exact ⟨fun ad had j u hj => (by injection had with had; subst had; exact h5 j u hj), fun h => (by cases h)⟩
theorem bytes_row {w : World} {base : Nat} {e : TypeId} {v : Value} {n : Nat} {b : List UInt8} (h : w.ownsRow base e 1 v n (b.map byteV)) : BytesIn (Has_ w) w v b := by
  have hn : n = b.length := by have := h.1; simp at this; omega
  subst hn
  exact (CellsIn.own h).keep fun c hc => ⟨hc.2.1, rfl⟩
theorem ByteRow.base {w : World} {base b2 : Nat} {e : TypeId} {v : Value} {l : List UInt8} (h : ByteRow w base e v l) (hb : b2 ≤ base) : ByteRow w b2 e v l := by
  rcases h with h | ⟨g, cap, cur, fz, h1, h2, h3⟩
  · exact .inl h
  · exact .inr ⟨g, cap, cur, fz, h1, Nat.le_trans hb h2, h3⟩
/-- One byte written over. -/
theorem ByteRow.put {w : World} {base : Nat} {e : TypeId} {v : Value} {l : List UInt8} (h : ByteRow w base e v l) (hl : 0 < l.length) : ∃ (g cap : Nat), v = .slice (some ⟨g, 0, none⟩) l.length cap ∧ base ≤ g ∧
    ∀ k, k < l.length → (∃ x, w.cell? ⟨g, k, none⟩ = some x) ∧ w.frozen? ⟨g, k, none⟩ = false ∧ ∀ c : UInt8, ByteRow (w.setCell ⟨g, k, none⟩ (byteV c)) base e v (l.set k c) := by
  rcases h with ⟨_, h1⟩ | ⟨g, cap, cur, fz, h1, h2, h3, h4, h5, h6, h7, h8⟩
  · rw [h1] at hl
    exact absurd hl (by simp)
  · refine ⟨g, cap, h1, h2, fun k hk => ⟨⟨cur[k]'(by omega), ?_⟩, ?_, fun c => ?_⟩⟩
    · simp [World.cell?, h3, show k < cur.size by omega]
    · have := h4 k (by omega)
      simp only [World.frozen?, h3, Bool.and_eq_false_iff, decide_eq_false_iff_not]
      omega
    · refine .inr ⟨g, cap, cur.setIfInBounds k (byteV c), fz, by rw [List.length_set]; exact h1, h2, ?_, by simpa using h4, by rw [List.length_set]; exact h5, h6, by simpa using h7, ?_⟩
      · rw [setCell_eq_setRow w g k cur e fz _ h3]
        exact setRow_heap w _ _ _ _ _ h3
      · rw [List.length_set, Array.toList_setIfInBounds, List.map_set, ← h8, List.take_set]
/-- The first n of some bytes. -/
theorem BytesIn.firsts {p : Nat → Prop} {w : World} {ao : Option Addr} {len cap n : Nat} {b : List UInt8} (h : BytesIn p w (.slice ao len cap) b) (hn : n ≤ b.length) : BytesIn p w (.slice ao n cap) (b.take n) := by
  have hl : (b.take n).length = n := by rw [List.length_take]; omega
  obtain ⟨_, ⟨h1, h2⟩ | ⟨a, cap2, h2, h3, h4, h5, h6⟩⟩ := h
  · injection h1 with e1 e2 e3
    subst e1 e3
    refine ⟨by simp, .inl ⟨by rw [show n = 0 by omega], by rw [hl]; omega⟩⟩
  · injection h2 with e1 e2 e3
    subst e1 e3
    refine ⟨by simp, .inr ⟨a, cap, by rw [hl], by rw [hl]; omega, h4, fun h0 => h5 (by omega), fun j u hj => h6 j u ?_⟩⟩
    rw [List.getElem?_map, List.getElem?_take] at hj
    rw [List.getElem?_map]
    split at hj
    · exact hj
    · cases hj
end Go.Proofs.YtepkihoakagidaaDoor
namespace Go.Proofs.YtepkihoakagidaaDoor
open Go.RowKit

/-- The components are texts that a machine holds. -/
def fitE (E : List (List (List UInt8))) : Prop := ∀ e ∈ E, e.length ≤ 10000000000000 ∧ ∀ x ∈ e, x.length ≤ 281474976710656
theorem fit_at {t : List UInt8} {E : List (List (List UInt8))} (h : fitE E) (k : Nat) : (atF ⟨t, E⟩ k).length ≤ 10000000000000 ∧ ∀ x ∈ atF ⟨t, E⟩ k, x.length ≤ 281474976710656 := by
  show (E.getD k []).length ≤ _ ∧ ∀ x ∈ E.getD k [], _
  rw [List.getD_eq_getElem?_getD]
  cases hk : E[k]? with
  | none => exact ⟨Nat.zero_le _, fun x hx => by cases hx⟩
  | some e => exact h e (List.mem_of_getElem? hk)
theorem fit_word {l : List (List UInt8)} (h : ∀ x ∈ l, x.length ≤ 281474976710656) : (wordL l).length ≤ 281474976710656 := by
  cases l with
  | nil => exact Nat.zero_le _
  | cons x r => exact h x (List.mem_cons_self ..)
theorem lElement_any (t : List UInt8) (v : Value) (E : List (List (List UInt8))) (k : Nat) (w : World) (h : ElemsIn (Has_ w) w v E) :
    Calls Tryd.prog 86 #[.agg #[strV t, v], .int .i64 k] w fun e w' => ∃ u, e = .returned u ∧ StrsIn (Has_ w') w' u (atF ⟨t, E⟩ k) ∧ Below w.heap.size w w' := by
  obtain ⟨ao, cap, rfl, hl, hc⟩ := h.form
  have hlb : E.length ≤ 9223372036854775807 := by unfold maxLen at hl; omega
  unfold strV
  have hb := (Below.refl w.heap.size w).alloc (Nat.le_refl _) (.cells #[.string ⟨t.toArray⟩, .slice ao E.length cap] 49)
  by_cases h1 : E.length ≤ k
  · have d1 : decide (E.length ≤ k) = true := decide_eq_true h1
    have e1 : atF ⟨t, E⟩ k = [] := by
      show E.getD k [] = []
      rw [List.getD_eq_getElem?_getD, List.getElem?_eq_none h1]
      rfl
    rw [e1]
    have hB := Lib.hid hb
    clear hc h h1 e1 hb
    go_enter Tryd.func86, Tryd.ntmps86
    go_wp2_with fail
    go_ret
    exact ⟨_, rfl, ⟨⟨rfl, .inl ⟨rfl, rfl⟩⟩, fun x hx => by cases hx⟩, hB.out⟩
  · have d1 : decide (E.length ≤ k) = false := decide_eq_false h1
    obtain ⟨e, he⟩ : ∃ e, E[k]? = some e := ⟨_, List.getElem?_eq_getElem (by omega)⟩
    obtain ⟨a, u, rfl, hu, hs⟩ := hc k e he
    have e1 : atF ⟨t, E⟩ k = e := by
      show E.getD k [] = e
      rw [List.getD_eq_getElem?_getD, he]
      rfl
    rw [e1]
    have j1 : (k : Int) < (E.length : Int) := by omega
    have hu2 := (hb.cell (World.block_lt_of_cell? w _ hu)).trans hu
    have hS := Lib.hid (hs.keep (has_keep hb))
    have hB := Lib.hid hb
    clear hc h h1 e1 he hs hb hu
    go_enter Tryd.func86, Tryd.ntmps86
    go_wp2_with fail
    go_ret
    exact ⟨_, rfl, hS.out, hB.out⟩
theorem lComponent_any (t : List UInt8) (v : Value) (E : List (List (List UInt8))) (k : Nat) (w : World) (h : ElemsIn (Has_ w) w v E) :
    Calls Tryd.prog 76 #[.agg #[strV t, v], .int .i64 k] w fun e w' => e = .returned (strV (wordL (atF ⟨t, E⟩ k))) ∧ Below w.heap.size w w' := by
  obtain ⟨ao, cap, rfl, hl, _⟩ := h.form
  have hb := (Below.refl w.heap.size w).alloc (Nat.le_refl _) (.cells #[strV t, .slice ao E.length cap] 49)
  have H := Lib.hid (lElement_any t _ E k _ (h.keep (has_keep hb)))
  have HB := Lib.hid hb
  generalize atF ⟨t, E⟩ k = l at *
  obtain ⟨R, hR⟩ : ∃ R, R = wordL l := ⟨_, rfl⟩
  rw [← hR]
  have HR := Lib.hid hR
  clear h hb hR
  unfold strV at *
  go_enter Tryd.func76, Tryd.ntmps76
  go_wp2_with fail
  refine H.out.mono ?_
  rintro e w1 ⟨u, rfl, hs, hb1⟩
  have hB1 := Lib.hid (HB.out.trans (hb1.mono HB.out.size))
  obtain ⟨uo, uc, rfl, hul, hcs⟩ := hs.form
  have hulb : l.length ≤ 9223372036854775807 := by unfold maxLen at hul; omega
  clear hb1 HB H hs
  match l with
  | [] =>
    have hR : R = [] := HR.out
    subst hR
    clear hcs HR
    go_wp2_with fail
    go_ret
    exact ⟨rfl, hB1.out⟩
  | x :: r =>
    have hR : R = x := HR.out
    subst hR
    obtain ⟨a, rfl, hx, _⟩ := hcs 0 R rfl
    have ha : a.add 0 = a := by unfold Addr.add; simp
    rw [ha] at hx
    unfold strV at hx
    obtain ⟨n, hn⟩ : ∃ n, (R :: r).length = n := ⟨_, rfl⟩
    have hn0 : 0 < n := by rw [← hn]; simp
    rw [hn] at hulb ⊢
    have d1 : decide ((0 : Int) < (n : Int)) = true := decide_eq_true (by omega)
    have d2 : decide (0 < n) = true := decide_eq_true hn0
    have j2 : (0 : Int) < (n : Int) := by omega
    clear hcs HR hn ha hul
    go_wp2_with fail
    go_ret
    exact ⟨rfl, hB1.out⟩
theorem lNumberOf_any (x : List UInt8) (hx : x.length ≤ 281474976710656) (w : World) (hL : MErr w) :
    Calls Tryd.prog 85 #[strV x] w fun e w' => e = .returned (.int .i64 (numL x)) ∧ Below w.heap.size w w' := by
  have H := Lib.hid (mAtoi_any x hx w hL)
  generalize numL x = n at *
  clear hx hL
  unfold strV at *
  go_enter Tryd.func85, Tryd.ntmps85
  go_wp2_with fail
  refine H.out.mono ?_
  rintro e w1 ⟨u, rfl, hb⟩
  go_wp2_with fail
  go_ret
  exact ⟨rfl, hb⟩
theorem lNumber_any (t : List UInt8) (v : Value) (E : List (List (List UInt8))) (k : Nat) (w : World) (h : ElemsIn (Has_ w) w v E) (hE : fitE E) (hL : MErr w) :
    Calls Tryd.prog 75 #[.agg #[strV t, v], .int .i64 k] w fun e w' => e = .returned (.int .i64 (numAt ⟨t, E⟩ k)) ∧ Below w.heap.size w w' := by
  obtain ⟨ao, cap, rfl, hl, _⟩ := h.form
  have hb := (Below.refl w.heap.size w).alloc (Nat.le_refl _) (.cells #[strV t, .slice ao E.length cap] 49)
  have H := Lib.hid (lComponent_any t _ E k _ (h.keep (has_keep hb)))
  have HN := Lib.hid (fun w hL => lNumberOf_any (wordL (atF ⟨t, E⟩ k)) (fit_word (fit_at hE k).2) w hL)
  have HB := Lib.hid hb
  have HL := Lib.hid hL
  unfold numAt
  generalize wordL (atF ⟨t, E⟩ k) = x at *
  generalize numL x = n at *
  clear h hb hE hL
  unfold strV at *
  go_enter Tryd.func75, Tryd.ntmps75
  go_wp2_with fail
  refine H.out.mono ?_
  rintro e w1 ⟨rfl, hb1⟩
  have hB1 := Lib.hid (HB.out.trans (hb1.mono HB.out.size))
  clear hb1 HB H
  go_wp2_with fail
  refine (HN.out _ (HL.out.keep hB1.out)).mono ?_
  rintro e w2 ⟨rfl, hb1⟩
  have hB2 := Lib.hid (hB1.out.trans (hb1.mono hB1.out.size))
  clear hb1 hB1 HN
  go_wp2_with fail
  go_ret
  exact ⟨rfl, hB2.out⟩
theorem info_num : (Tryd.prog.info? 3).map (fun i => (i.zero, i.size, i.bytes)) = some (some (.int .i64 0), 1, 8) := by kernel_rfl
theorem one_num (W : World) (x : Int) : ∀ j u, ([.int .i64 x] : List Value)[j]? = some u → (W.alloc (.cells #[.int .i64 x] 3)).cell? ((⟨W.heap.size, 0, none⟩ : Addr).add j) = some u := by
  intro j u hj
  match j with
  | 0 =>
    simp at hj
    rw [← hj, Addr.add_lit]
    simp [go_sem]
  | j + 1 => simp at hj
theorem nums_own {w : World} {base : Nat} {v : Value} {l : List Int} (h : w.ownsRow base 3 1 v l.length (l.map fun n => .int .i64 n)) : NumsIn (fun b => base ≤ b ∧ b < w.heap.size) w v l := (CellsIn.own h).keep fun _ hb => ⟨⟨hb.1, hb.2.1⟩, rfl⟩
set_option maxRecDepth 100000 in
set_option maxHeartbeats 3200000 in
theorem lNumbers_any (t : List UInt8) (v : Value) (E : List (List (List UInt8))) (k : Nat) (w : World) (h : ElemsIn (Has_ w) w v E) (hE : fitE E) (hL : MErr w) :
    Calls Tryd.prog 77 #[.agg #[strV t, v], .int .i64 k] w fun e w' => ∃ u, e = .returned u ∧ NumsIn (fun b => w.heap.size ≤ b ∧ b < w'.heap.size) w' u ((atF ⟨t, E⟩ k).map numL) ∧ Below w.heap.size w w' := by
  obtain ⟨ao, cap, rfl, hl, _⟩ := h.form
  have hb := (Below.refl w.heap.size w).alloc (Nat.le_refl _) (.cells #[strV t, .slice ao E.length cap] 49)
  have H := Lib.hid (lElement_any t _ E k _ (h.keep (has_keep hb)))
  have HF := Lib.hid (fit_at (t := t) hE k)
  have HB := Lib.hid hb
  have HL := Lib.hid hL
  generalize atF ⟨t, E⟩ k = l at *
  obtain ⟨i0, hi0, hz0, hz1, hz2⟩ := info_parts info_num
  clear h hb hE hL
  unfold strV at *
  go_enter Tryd.func77, Tryd.ntmps77
  go_wp2_with fail
  refine H.out.mono ?_
  rintro e W ⟨u, rfl, hs, hb1⟩
  have hB1 := Lib.hid (HB.out.trans (hb1.mono HB.out.size))
  have HS := Lib.hid hs
  obtain ⟨uo, uc, rfl, hul, _⟩ := hs.form
  have hlb : l.length ≤ 9223372036854775807 := by unfold maxLen at hul; omega
  clear hb1 HB H hs hul
  go_wp2_with fail
  go_loopw [5, 12] (fun vl vi wx => ∃ (u : Value) (i : Nat), u = vl ∧ vi = .int .i64 i ∧ i ≤ l.length ∧ Hid (wx.ownsRow W.heap.size 3 1 u ((l.take i).map numL).length (((l.take i).map numL).map fun n => .int .i64 n)) ∧ Hid (Below W.heap.size W wx)) (fun _ vi _ => l.length - (intOf vi).toNat)
  case atStart => exact ⟨_, 0, rfl, by go_num, by omega, Lib.hid (World.ownsRow_nil _ _ _ _), Lib.hid (Below.refl _ _)⟩
  case round =>
    obtain ⟨u, i, rfl, rfl, hi, hA, hB⟩ := hrel
    by_cases hlt : i < l.length
    · have d1 : decide ((i : Int) < (l.length : Int)) = true := decide_eq_true (by omega)
      obtain ⟨x, hx⟩ : ∃ x, l[i]? = some x := ⟨_, List.getElem?_eq_getElem hlt⟩
      obtain ⟨_, _, hs, _, hc⟩ := (HS.out.keep (has_keep hB.out)).form
      injection hs with hs1 hs2 hs3
      subst hs1
      obtain ⟨a, rfl, hcx, _⟩ := hc i x hx
      have j1 : (0 : Int) ≤ (i : Int) := by omega
      have j2 : (i : Int) < (l.length : Int) := by omega
      have HN := Lib.hid (fun w hL => lNumberOf_any x (HF.out.2 x (List.mem_of_getElem? hx)) w hL)
      have hsn := Lib.hid (show ((l.take i).map numL) ++ [numL x] = (l.take (i + 1)).map numL by rw [List.take_add_one, hx]; simp)
      have hln : ((l.take i).map numL).length = i := by simp; omega
      have hbig := HF.out.1
      unfold strV at hcx HN
      clear hc hs2 hs3 hx
      go_wp2_with fail
      refine (HN.out _ (HL.out.keep (hB1.out.trans (hB.out.mono hB1.out.size)))).mono ?_
      rintro e w1 ⟨rfl, hb⟩
      have hA1 := Lib.hid (own_keep hA.out hb)
      have hB2 := Lib.hid (hB.out.trans (hb.mono hB.out.size))
      have hba : Below w1.heap.size w1 (w1.alloc (.cells #[.int .i64 (numL x)] 3)) := (Below.refl _ _).alloc (Nat.le_refl _) _
      have hA2 := Lib.hid (own_keep hA1.out hba)
      have hB3 := Lib.hid (hB2.out.trans (hba.mono hB2.out.size))
      have hnn := one_num w1 (numL x)
      clear hb hA hB hA1 hB2 hba HN hcx
      generalize numL x = nx at *
      go_wp2_with (at_builtin; refine wpList_append_own _ rfl _ _ 22 rfl W.heap.size 3 i0 (.int .i64 0) 1 8 Tryd.underlying22 hi0 hz0 hz1 hz2 rfl (by decide) _ _ _ rfl hA2.out ⟨w1.heap.size, 0, none⟩ 1 1 [.int .i64 nx] rfl rfl hnn (by intro u hu; simp at hu; rw [hu]; rfl) (by rw [hln]; unfold maxLen; omega) (by rw [hln]; omega) hB3.out.size ?_)
      intro v9 w9 hown9 hg9 _
      have hA4 := Lib.hid (show w9.ownsRow W.heap.size 3 1 v9 ((l.take (i + 1)).map numL).length (((l.take (i + 1)).map numL).map fun n => .int .i64 n) from by rw [← hsn.out]; simpa [Nat.min_eq_left hi] using hown9)
      have hB4 := Lib.hid (hB3.out.grown hg9 hB3.out.size fun k hk => (hA2.out.lt k hk).1)
      clear hA2 hB3 hown9 hg9 hnn hsn
      go_wp2_with fail
      go_roundw
      case rel => exact ⟨_, i + 1, rfl, by go_num, by omega, hA4, hB4⟩
      case measure => simp [intOf]; omega
    · obtain rfl : i = l.length := by omega
      have d1 : decide ((l.length : Int) < (l.length : Int)) = false := decide_eq_false (by omega)
      have hA1 := hA.out
      rw [List.take_length] at hA1
      have hN := Lib.hid (nums_own hA1)
      clear hA hA1
      go_wp2_with fail
      go_ret
      exact ⟨_, rfl, hN.out.keep fun b hb => ⟨⟨Nat.le_trans hB1.out.size hb.1, hb.2⟩, rfl⟩, hB1.out.trans (hB.out.mono hB1.out.size)⟩
end Go.Proofs.YtepkihoakagidaaDoor
