/- The making of segments: what lies in memory while it runs, and that each step keeps it. No condition. -/
import Derived.Test.YtenlfapdmknkjaaSegSrc
import Derived.Test.YtenlfapdmknkjaaSegReadAt
namespace Go.Proofs.Ytenlfapdmknkjaa
open Go.RowKit

/-- Blocks that hold no segment, and are not the source. -/
def Calm (SB : Nat) (w : World) (b : Nat) : Prop := (∃ cs t fz, w.heap[b]? = some (.cells cs t fz) ∧ t ≠ 24) ∧ b ≠ SB
theorem Calm.since {SB : Nat} {w w1 : World} {b : Nat} (h : Calm SB w b) (hs : Since SB w w1) : Calm SB w1 b ∧ w1.heap[b]? = w.heap[b]? := by
  obtain ⟨⟨cs, t, fz, h1, h2⟩, h3⟩ := h
  have e := hs.block b (Array.getElem?_eq_some_iff.1 h1).1 h3
  exact ⟨⟨⟨cs, t, fz, e.trans h1, h2⟩, h3⟩, e⟩
theorem Calm.turn {SB : Nat} {w w1 : World} {b : Nat} (h : Calm SB w b) (ht : TurnsTy 24 w w1) : Calm SB w1 b ∧ w1.heap[b]? = w.heap[b]? := by
  obtain ⟨⟨cs, t, fz, h1, h2⟩, h3⟩ := h
  have e := ht.block b cs t fz h1 h2
  exact ⟨⟨⟨cs, t, fz, e.trans h1, h2⟩, h3⟩, e⟩
/-- Blocks of texts, not the source. -/
def TextB (SB : Nat) (w : World) (b : Nat) : Prop := (∃ cs fz, w.heap[b]? = some (.cells cs 9 fz)) ∧ b ≠ SB
theorem TextB.since {SB : Nat} {w w1 : World} {b : Nat} (h : TextB SB w b) (hs : Since SB w w1) : TextB SB w1 b ∧ w1.heap[b]? = w.heap[b]? := by
  obtain ⟨⟨cs, fz, h1⟩, h3⟩ := h
  have e := hs.block b (Array.getElem?_eq_some_iff.1 h1).1 h3
  exact ⟨⟨⟨cs, fz, e.trans h1⟩, h3⟩, e⟩
theorem TextB.turn {SB : Nat} {w w1 : World} {b : Nat} {t : TypeId} (h : TextB SB w b) (ht : TurnsTy t w w1) (hne : 9 ≠ t) : TextB SB w1 b ∧ w1.heap[b]? = w.heap[b]? := by
  obtain ⟨⟨cs, fz, h1⟩, h3⟩ := h
  have e := ht.block b cs _ fz h1 hne
  exact ⟨⟨⟨cs, fz, e.trans h1⟩, h3⟩, e⟩

/-- The segments so far. -/
structure OutAt (W0 w : World) (SB : Nat) (vl : Value) (us : List Value) (acc : List Seg) : Prop where
  src : SourceAt W0 w SB
  row : w.ownsRow (SB + 1) 24 2 vl acc.length us
  segs : ∀ (i : Nat) (s : Seg), acc[i]? = some s → us[i * 2]? = some (strV s.tag) ∧ s.tag.length ≤ maxLen ∧ ∃ u, us[i * 2 + 1]? = some u ∧ ElemsIn (Calm SB w) w u s.els
  good : ∀ s ∈ acc, segE s = 0
theorem OutAt.since {W0 w w1 : World} {SB : Nat} {vl : Value} {us : List Value} {acc : List Seg} (h : OutAt W0 w SB vl us acc) (hs : Since SB w w1) (hsrc : SourceAt W0 w1 SB) : OutAt W0 w1 SB vl us acc :=
  ⟨hsrc, hs.row h.row (Nat.lt_succ_self _), fun i s hi => by
    obtain ⟨h1, h2, u, h3, h4⟩ := h.segs i s hi
    exact ⟨h1, h2, u, h3, h4.keep fun _ hb => hb.since hs⟩, h.good⟩
/-- A segment in the making: its variable, its finished elements. -/
structure XAt (W0 wS w : World) (SB XB : Nat) (tag : List UInt8) (vE : Value) (us : List Value) (L : List (List (List UInt8))) : Prop where
  src : SourceAt W0 w SB
  since : Since SB wS w
  below : SB < wS.heap.size
  lo : wS.heap.size ≤ XB
  box : w.heap[XB]? = some (.cells #[strV tag, vE] 24 (0, 0))
  row : w.ownsRow wS.heap.size 49 1 vE L.length us
  fin : ∀ (i : Nat) (e : List (List UInt8)), L[i]? = some e → ∃ u, us[i]? = some u ∧ StrsIn (TextB SB w) w u e
theorem XAt.next {W0 wS w w1 : World} {SB XB : Nat} {tag : List UInt8} {vE : Value} {us : List Value} {L : List (List (List UInt8))} (h : XAt W0 wS w SB XB tag vE us L) (hs : Since SB w w1) (hsrc : SourceAt W0 w1 SB) : XAt W0 wS w1 SB XB tag vE us L := by
  have hb := h.below
  have hl := h.lo
  exact ⟨hsrc, h.since.trans hs, h.below, h.lo, (hs.block XB (Array.getElem?_eq_some_iff.1 h.box).1 (by omega)).trans h.box, hs.row h.row hb, fun i e hi => by
    obtain ⟨u, h3, h4⟩ := h.fin i e hi
    exact ⟨u, h3, h4.keep fun _ hb => hb.since hs⟩⟩
theorem XAt.cells {W0 wS w : World} {SB XB : Nat} {tag : List UInt8} {vE : Value} {us : List Value} {L : List (List (List UInt8))} (h : XAt W0 wS w SB XB tag vE us L) :
    (w.cell? ⟨XB, 0, none⟩ = some (strV tag) ∧ w.frozen? ⟨XB, 0, none⟩ = false) ∧ (w.cell? ⟨XB, 1, none⟩ = some vE ∧ w.frozen? ⟨XB, 1, none⟩ = false) := by
  have := h.box
  refine ⟨⟨?_, ?_⟩, ?_, ?_⟩ <;> simp [World.cell?, World.frozen?, this]
/-- An element more. -/
theorem XAt.push {W0 wS w w1 : World} {SB XB base : Nat} {tag : List UInt8} {vE v1 ve : Value} {us : List Value} {L : List (List (List UInt8))} {cur : List (List UInt8)} (h : XAt W0 wS w SB XB tag vE us L)
    (he : w.ownsRow base 9 1 ve cur.length (cur.map strV)) (hbase : SB < base) (hsh : ∀ x ∈ cur, x.length ≤ maxLen)
    (hr : w1.ownsRow wS.heap.size 49 1 v1 (L.length + 1) (us ++ [ve])) (hg : w.grownBy w1 vE.ownBlock) : XAt W0 wS (w1.setCell ⟨XB, 1, none⟩ v1) SB XB tag v1 (us ++ [ve]) (L ++ [cur]) := by
  have hb := h.below
  have hl := h.lo
  have hown := own_ty h.row
  have ht := TurnsTy.of_grown hg hown
  have hbox1 := (ht.block XB _ _ _ h.box (by decide)).trans h.box
  have ht2 := TurnsTy.of_set (i := 1) hbox1 v1
  have hst := setCell_eq_setRow w1 XB 1 _ _ _ v1 hbox1
  have hlen : us.length = L.length := by have := h.row.1; omega
  have hrow : ∀ k, vE.ownBlock = some k → wS.heap.size ≤ k := fun k hk => (h.row.lt k hk).1
  have hg2 : w1.grownBy (w1.setCell ⟨XB, 1, none⟩ v1) (some XB) := ⟨rfl, rfl, rfl, by simp, fun k _ hk => heap_setCell_other w1 ⟨XB, 1, none⟩ k v1 (fun e => hk (by simp [e]))⟩
  have hsrc1 := h.src.grown hg (fun k hk => by have := hrow k hk; omega)
  refine ⟨hsrc1.grown hg2 (fun k hk => by cases hk; omega), (h.since.grown hg hrow).grown hg2 (fun k hk => by cases hk; exact hl), h.below, h.lo, ?_, ?_, fun i e hi => ?_⟩
  · rw [hst]
    exact setRow_heap w1 _ _ _ _ _ hbox1
  · have := ht2.own hr (by decide)
    simpa using this
  · by_cases hlt : i < L.length
    · rw [List.getElem?_append_left hlt] at hi
      obtain ⟨u, h3, h4⟩ := h.fin i e hi
      refine ⟨u, by rw [List.getElem?_append_left (by omega)]; exact h3, (h4.keep fun _ hb1 => hb1.turn ht (by decide)).keep fun _ hb1 => hb1.turn ht2 (by decide)⟩
    · have hlt2 := (List.getElem?_eq_some_iff.1 hi).1
      rw [List.length_append] at hlt2
      have h1 : ([cur] : List (List (List UInt8))).length = 1 := rfl
      obtain rfl : i = L.length := by omega
      rw [List.getElem?_append_right (Nat.le_refl _)] at hi
      simp at hi
      subst hi
      refine ⟨ve, by rw [← hlen, List.getElem?_append_right (Nat.le_refl _)]; simp, ((?_ : StrsIn (TextB SB w) w ve cur).keep fun _ hb1 => hb1.turn ht (by decide)).keep fun _ hb1 => hb1.turn ht2 (by decide)⟩
      refine ⟨(CellsIn.own he).keep fun b hb1 => ⟨⟨?_, by omega⟩, rfl⟩, hsh⟩
      obtain ⟨cs, fz, hc⟩ := own_ty he b hb1.2.2
      exact ⟨cs, fz, hc⟩
/-- The elements, as they lie there. -/
theorem XAt.els {W0 wS w : World} {SB XB : Nat} {tag : List UInt8} {vE : Value} {us : List Value} {L : List (List (List UInt8))} (h : XAt W0 wS w SB XB tag vE us L) : ElemsIn (Calm SB w) w vE L := by
  have hb := h.below
  refine ⟨us, (CellsIn.own h.row).keep fun b hb1 => ⟨⟨?_, by omega⟩, rfl⟩, fun i e hi => ?_⟩
  · obtain ⟨cs, fz, hc⟩ := own_ty h.row b hb1.2.2
    exact ⟨cs, _, fz, hc, by decide⟩
  · obtain ⟨u, h3, h4⟩ := h.fin i e hi
    refine ⟨u, h3, h4.keep fun b hb1 => ⟨⟨?_, hb1.2⟩, rfl⟩⟩
    obtain ⟨⟨cs, fz, hc⟩, _⟩ := hb1
    exact ⟨cs, _, fz, hc, by decide⟩
/-- A segment more. -/
theorem OutAt.push {W0 w w1 : World} {SB : Nat} {vl v1 x : Value} {us : List Value} {acc : List Seg} {s : Seg} (h : OutAt W0 w SB vl us acc)
    (hx : ElemsIn (Calm SB w) w x s.els) (hs : s.tag.length ≤ maxLen) (h0 : segE s = 0)
    (hr : w1.ownsRow (SB + 1) 24 2 v1 (acc.length + 1) (us ++ [strV s.tag, x])) (hg : w.grownBy w1 vl.ownBlock) : OutAt W0 w1 SB v1 (us ++ [strV s.tag, x]) (acc ++ [s]) := by
  have ht := TurnsTy.of_grown hg (own_ty h.row)
  have hl : us.length = acc.length * 2 := h.row.1
  refine ⟨h.src.grown hg (fun k hk => by have := (h.row.lt k hk).1; omega), by simpa using hr, fun i s1 hi => ?_, fun s1 hs1 => ?_⟩
  · by_cases hlt : i < acc.length
    · rw [List.getElem?_append_left hlt] at hi
      obtain ⟨h1, h2, u, h3, h4⟩ := h.segs i s1 hi
      refine ⟨by rw [List.getElem?_append_left (by omega)]; exact h1, h2, u, by rw [List.getElem?_append_left (by omega)]; exact h3, h4.keep fun _ hb1 => hb1.turn ht⟩
    · have hlt2 := (List.getElem?_eq_some_iff.1 hi).1
      rw [List.length_append] at hlt2
      have h1 : ([s] : List Seg).length = 1 := rfl
      obtain rfl : i = acc.length := by omega
      rw [List.getElem?_append_right (Nat.le_refl _)] at hi
      simp at hi
      subst hi
      refine ⟨?_, hs, x, ?_, hx.keep fun _ hb1 => hb1.turn ht⟩
      · rw [← hl, List.getElem?_append_right (Nat.le_refl _)]
        simp
      · rw [← hl, List.getElem?_append_right (by omega)]
        simp
  · rcases List.mem_append.1 hs1 with hs1 | hs1
    · exact h.good s1 hs1
    · rw [List.mem_singleton.1 hs1]; exact h0
theorem OutAt.done {W0 w : World} {SB : Nat} {vl : Value} {us : List Value} {acc : List Seg} (h : OutAt W0 w SB vl us acc) : SegsIn (Has_ w) w vl acc :=
  ⟨us, (CellsIn.own h.row).keep fun b hb => ⟨hb.2.1, rfl⟩, fun i s hi => by
    obtain ⟨h1, h2, u, h3, h4⟩ := h.segs i s hi
    exact ⟨h1, h2, u, h3, h4.keep fun b hb1 => ⟨by obtain ⟨⟨cs, t, fz, hc, _⟩, _⟩ := hb1; exact (Array.getElem?_eq_some_iff.1 hc).1, rfl⟩⟩⟩
/-- An element in the making. -/
structure EAt (W0 wE w : World) (SB : Nat) (ve : Value) (cur : List (List UInt8)) : Prop where
  src : SourceAt W0 w SB
  since : Since SB wE w
  below : SB < wE.heap.size
  row : w.ownsRow wE.heap.size 9 1 ve cur.length (cur.map strV)
  short : ∀ x ∈ cur, x.length ≤ 4
theorem EAt.start {W0 w : World} {SB : Nat} (h : SourceAt W0 w SB) : EAt W0 w w SB (.slice none 0 0) [] := ⟨h, Since.refl _ _, h.lt, World.ownsRow_nil _ _ _ _, fun x hx => absurd hx (by simp)⟩
theorem EAt.next {W0 wE w w1 : World} {SB : Nat} {ve : Value} {cur : List (List UInt8)} (h : EAt W0 wE w SB ve cur) (hs : Since SB w w1) (hsrc : SourceAt W0 w1 SB) : EAt W0 wE w1 SB ve cur :=
  ⟨hsrc, h.since.trans hs, h.below, hs.row h.row h.below, h.short⟩
theorem EAt.alloc {W0 wE w : World} {SB : Nat} {ve : Value} {cur : List (List UInt8)} (h : EAt W0 wE w SB ve cur) (o : Obj) : EAt W0 wE (w.alloc o) SB ve cur := h.next ((Since.refl _ _).alloc o) (h.src.alloc o)
theorem EAt.push {W0 wE w w1 : World} {SB : Nat} {ve v1 : Value} {cur : List (List UInt8)} {x : List UInt8} (h : EAt W0 wE w SB ve cur) (hx : x.length ≤ 4)
    (hr : w1.ownsRow wE.heap.size 9 1 v1 (cur.length + 1) (cur.map strV ++ [strV x])) (hg : w.grownBy w1 ve.ownBlock) : EAt W0 wE w1 SB v1 (cur ++ [x]) := by
  have hb := h.below
  have hrow : ∀ k, ve.ownBlock = some k → wE.heap.size ≤ k := fun k hk => (h.row.lt k hk).1
  exact ⟨h.src.grown hg (fun k hk => by have := hrow k hk; omega), h.since.grown hg hrow, h.below, by simpa using hr, fun y hy => by
    rcases List.mem_append.1 hy with hy | hy
    · exact h.short y hy
    · rw [List.mem_singleton.1 hy]; exact hx⟩
/-- A list of one text. -/
theorem EAt.one {W0 wE w : World} {SB : Nat} {ve : Value} {cur : List (List UInt8)} {x : List UInt8} (h : EAt W0 wE w SB ve cur) (hx : x.length ≤ 4) :
    EAt W0 wE (w.alloc (.cells #[.string ⟨x.toArray⟩] 9)) SB (.slice (some ⟨w.heap.size, 0, none⟩) 1 1) [x] :=
  ⟨h.src.alloc _, h.since.alloc _, h.below, World.ownsRow_lit (base := wE.heap.size) (e := 9) (size := 1) w #[.string ⟨x.toArray⟩] 1 h.since.size (by unfold maxLen; omega) rfl, fun y hy => by rw [List.mem_singleton.1 hy]; exact hx⟩
/-- A text written over. -/
theorem EAt.put {W0 wE w : World} {SB g n cap : Nat} {cur : List (List UInt8)} {x : List UInt8} (h : EAt W0 wE w SB (.slice (some ⟨g, 0, none⟩) n cap) cur) (hx : x.length ≤ 4) (i : Nat) :
    EAt W0 wE (w.setCell ⟨g, i, none⟩ (strV x)) SB (.slice (some ⟨g, 0, none⟩) n cap) (cur.set i x) := by
  have hb := h.below
  have hn : n = cur.length := by
    rcases h.row.2 with ⟨h1, _⟩ | ⟨_, _, _, h1, _⟩
    · cases h1
    · injection h1
  subst hn
  obtain ⟨h3, h4⟩ := h.row.stored i (strV x)
  have hg := (h.row.lt g rfl).1
  exact ⟨h.src.grown h4 (fun k hk => by cases hk; omega), h.since.grown h4 (fun k hk => by cases hk; exact hg), h.below, by rw [List.length_set, List.map_set]; exact h3, fun y hy => by
    rcases List.mem_or_eq_of_mem_set hy with hy | hy
    · exact h.short y hy
    · rw [hy]; exact hx⟩
theorem EAt.cell {W0 wE w : World} {SB g n cap : Nat} {cur : List (List UInt8)} (h : EAt W0 wE w SB (.slice (some ⟨g, 0, none⟩) n cap) cur) {i : Nat} {x : List UInt8} (hx : cur[i]? = some x) :
    w.cell? ⟨g, i, none⟩ = some (strV x) ∧ w.frozen? ⟨g, i, none⟩ = false := by
  have hn : n = cur.length := by
    rcases h.row.2 with ⟨h1, _⟩ | ⟨_, _, _, h1, _⟩
    · cases h1
    · injection h1
  subst hn
  refine ⟨?_, h.row.frozenAt i⟩
  rw [h.row.cellAt i (by have := (List.getElem?_eq_some_iff.1 hx).1; omega), List.getElem?_map, hx]
  rfl

/-- Elements that may stand in a valid segment, n more to come. -/
structure GoodE (L : List (List (List UInt8))) (n : Nat) : Prop where
  len : L.length + n ≤ 3
  short : ∀ e ∈ L, e.length ≤ 3 ∧ ∀ x ∈ e, x.length ≤ 4
  last : ∀ e ∈ L, lastE e = false
  fin : n = 0 → L = [] ∨ ∃ M e, L = M ++ [e] ∧ e ≠ []
theorem good_bad : ∀ {L : List (List (List UInt8))}, (∀ e ∈ L, lastE e = false) → (L = [] ∨ ∃ M e, L = M ++ [e] ∧ e ≠ []) → badB L = false
  | [], _, _ => rfl
  | [e], h1, h2 => by
    have h3 := h1 e (List.mem_cons_self ..)
    show (e.isEmpty || lastE e) = false
    rw [h3, Bool.or_false]
    rcases h2 with h2 | ⟨M, e2, h2, h4⟩
    · cases h2
    · cases M with
      | nil =>
        simp at h2
        subst h2
        simpa using h4
      | cons m M =>
        have := congrArg List.length h2
        simp at this
  | e :: f :: r, h1, h2 => by
    show (lastE e || badB (f :: r)) = false
    rw [h1 e (List.mem_cons_self ..), Bool.false_or]
    refine good_bad (fun x hx => h1 x (List.mem_cons_of_mem _ hx)) (.inr ?_)
    rcases h2 with h2 | ⟨M, e2, h2, h4⟩
    · cases h2
    · cases M with
      | nil => simp at h2
      | cons m M =>
        simp at h2
        exact ⟨M, e2, h2.2, h4⟩
theorem GoodE.seg {L : List (List (List UInt8))} (h : GoodE L 0) {t : List UInt8} (ht : tagB t = true) : segE ⟨t, L⟩ = 0 := by
  have hl : longB L = false := by
    unfold longB
    rw [decide_eq_false (by have := h.len; omega), Bool.false_or, List.any_eq_false]
    intro e he
    obtain ⟨h1, h2⟩ := h.short e he
    unfold longE
    rw [decide_eq_false (by omega), Bool.false_or]
    simp only [List.any_eq_true, decide_eq_true_eq, not_exists, not_and]
    intro x hx
    have := h2 x hx
    omega
  unfold segE
  rw [if_pos ht, hl, good_bad h.last (h.fin rfl)]
  rfl
theorem GoodE.push {L : List (List (List UInt8))} {n : Nat} (h : GoodE L (n + 1)) {e : List (List UInt8)} (h1 : e.length ≤ 3) (h2 : ∀ x ∈ e, x.length ≤ 4) (h3 : lastE e = false) (h4 : n = 0 → e ≠ []) : GoodE (L ++ [e]) n := by
  have hlen := h.len
  refine ⟨by simp; omega, fun x hx => ?_, fun x hx => ?_, fun hn => .inr ⟨L, e, rfl, h4 hn⟩⟩
  · rcases List.mem_append.1 hx with hx | hx
    · exact h.short x hx
    · rw [List.mem_singleton.1 hx]; exact ⟨h1, h2⟩
  · rcases List.mem_append.1 hx with hx | hx
    · exact h.last x hx
    · rw [List.mem_singleton.1 hx]; exact h3
theorem GoodE.nil {n : Nat} (h : n ≤ 3) : GoodE [] n := ⟨by simpa using h, fun e he => absurd he (by simp), fun e he => absurd he (by simp), fun _ => .inl rfl⟩
end Go.Proofs.Ytenlfapdmknkjaa
