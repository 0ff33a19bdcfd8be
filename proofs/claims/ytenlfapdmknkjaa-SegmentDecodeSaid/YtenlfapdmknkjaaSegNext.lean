/- What Next of the reference of layer 6 returns: the first segment of the bytes. Condition: the bytes' cells are known, and there are not too many. -/
import Derived.Test.YtenlfapdmknkjaaSegRead
import Derived.Test.YtenlfapdmknkjaaSegText
import Derived.Test.YtenlfapdmknkjaaSegVal
namespace Go.Proofs.Ytenlfapdmknkjaa
open Go.RowKit


/-- The scan for a segment's end has come to byte n. -/
def EndTo (b : List UInt8) (n : Nat) : Prop := (n ≤ b.length ∧ endF b = (endF (b.drop n)).map (· + n)) ∨ (n = b.length + 1 ∧ endF b = none)
theorem EndTo.zero (b : List UInt8) : EndTo b 0 := .inl ⟨Nat.zero_le _, by cases h : endF b <;> simp [h]⟩
theorem EndTo.hit {b : List UInt8} {n : Nat} (h : EndTo b n) (hc : b[n]? = some 39) : endF b = some n := by
  obtain ⟨k1, e1⟩ := List.getElem?_eq_some_iff.1 hc
  rcases h with ⟨_, h⟩ | ⟨h, _⟩
  · rw [List.drop_eq_getElem_cons k1, e1, end_hit] at h
    simpa using h
  · omega
theorem EndTo.over {b : List UInt8} {n : Nat} (h : EndTo b n) (hn : b.length ≤ n) : endF b = none := by
  rcases h with ⟨h1, h⟩ | ⟨_, h⟩
  · obtain rfl : n = b.length := by omega
    rw [List.drop_length] at h
    exact h
  · exact h
theorem EndTo.pair {b : List UInt8} {n : Nat} (h : EndTo b n) (hc : b[n]? = some 63) : EndTo b (n + 2) ∨ (n + 1 = b.length ∧ EndTo b (n + 2)) := by
  obtain ⟨k1, e1⟩ := List.getElem?_eq_some_iff.1 hc
  rcases h with ⟨_, h⟩ | ⟨h, _⟩
  · rw [List.drop_eq_getElem_cons k1, e1] at h
    by_cases h2 : n + 1 < b.length
    · rw [List.drop_eq_getElem_cons h2, end_pair] at h
      refine .inl (.inl ⟨by omega, ?_⟩)
      rw [h]
      cases endF (b.drop (n + 1 + 1)) with
      | none => rfl
      | some k => simp; omega
    · have h3 : n + 1 = b.length := by omega
      rw [h3, List.drop_length, end_last] at h
      exact .inr ⟨h3, .inr ⟨by omega, h⟩⟩
  · omega
theorem EndTo.step {b : List UInt8} {n : Nat} {c : UInt8} (h : EndTo b n) (hc : b[n]? = some c) (h1 : c ≠ 39) (h2 : c ≠ 63) : EndTo b (n + 1) := by
  obtain ⟨k1, e1⟩ := List.getElem?_eq_some_iff.1 hc
  rcases h with ⟨_, h⟩ | ⟨h, _⟩
  · rw [List.drop_eq_getElem_cons k1, e1, end_step h1 h2] at h
    refine .inl ⟨by omega, ?_⟩
    rw [h]
    cases endF (b.drop (n + 1)) with
    | none => rfl
    | some k => simp; omega
  · omega
theorem next_none {b : List UInt8} (h : endF b = none) : nextF b = (noSeg, 0, 5) := by unfold nextF; rw [h]
theorem next_some {b : List UInt8} {n : Nat} (h : endF b = some n) : nextF b = if segE (readF (b.take n)) = 0 ∧ encS (readF (b.take n)) = b.take (n + 1) then (readF (b.take n), n + 1, 0) else (noSeg, 0, 4) := by unfold nextF; rw [h]
theorem BytesIn.take {p : Nat → Prop} {w : World} {a : Addr} {len cap n : Nat} {b : List UInt8} (h : BytesIn p w (.slice (some a) len cap) b) (hn : n ≤ b.length) : BytesIn p w (.slice (some a) n cap) (b.take n) := by
  have hl : (b.take n).length = n := by rw [List.length_take]; omega
  refine ⟨by simp, ?_⟩
  obtain ⟨_, ⟨h1, _⟩ | ⟨a2, cap2, h2, h3, h4, h5, h6⟩⟩ := h
  · cases h1
  · injection h2 with e1 e2 e3
    injection e1 with e1
    subst e1 e3
    refine .inr ⟨a, cap, by rw [hl], by omega, h4, fun h0 => h5 (by omega), fun j u hj => h6 j u ?_⟩
    rw [List.getElem?_map] at hj ⊢
    have hj2 : j < n := by
      rcases Nat.lt_or_ge j n with h | h
      · exact h
      · rw [List.getElem?_eq_none (by omega)] at hj
        cases hj
    rw [List.getElem?_take_of_lt hj2] at hj
    exact hj
theorem BytesIn.cap {p : Nat → Prop} {w : World} {a : Addr} {len cap : Nat} {b : List UInt8} (h : BytesIn p w (.slice (some a) len cap) b) : b.length ≤ cap := by
  obtain ⟨_, ⟨h1, _⟩ | ⟨a2, cap2, h2, h3, _⟩⟩ := h
  · cases h1
  · injection h2 with _ _ e3
    omega
theorem BytesIn.keep {w wx : World} {v : Value} {b : List UInt8} (h : BytesIn (Has_ w) w v b) (hb : Below w.heap.size w wx) : BytesIn (Has_ wx) wx v b := CellsIn.keep h (has_keep hb)
/-- The result's own cells while Next runs. -/
structure NextAt (w W : World) : Prop where
  below : Below w.heap.size w W
  res : W.heap[w.heap.size]? = some (.cells #[.string ⟨#[]⟩, .slice none 0 0] 24 (0, 0))
theorem NextAt.keep {w W W1 : World} (h : NextAt w W) (hb : Below W.heap.size W W1) : NextAt w W1 :=
  ⟨h.below.trans (hb.mono h.below.size), (hb.block _ (Array.getElem?_eq_some_iff.1 h.res).1).trans h.res⟩
theorem NextAt.cells {w W : World} (h : NextAt w W) : (W.cell? ⟨w.heap.size, 0, none⟩ = some (.string ⟨#[]⟩) ∧ W.frozen? ⟨w.heap.size, 0, none⟩ = false) ∧ (W.cell? ⟨w.heap.size, 1, none⟩ = some (.slice none 0 0) ∧ W.frozen? ⟨w.heap.size, 1, none⟩ = false) := by
  have := h.res
  refine ⟨⟨?_, ?_⟩, ?_, ?_⟩ <;> simp [World.cell?, World.frozen?, this]
/-- The box of the segment that was read. -/
structure BoxAt (w1 W2 : World) (t : List UInt8) (x : Value) : Prop where
  below : Below w1.heap.size w1 W2
  box : W2.heap[w1.heap.size]? = some (.cells #[.string ⟨t.toArray⟩, x] 24 (0, 0))
theorem box_at (w1 : World) (t : List UInt8) (x : Value) : BoxAt w1 (w1.alloc (.cells #[.string ⟨t.toArray⟩, x] 24)) t x := by
  refine ⟨(Below.refl _ _).alloc (Nat.le_refl _) _, ?_⟩
  show (w1.heap.push _)[w1.heap.size]? = some _
  simp
theorem BoxAt.keep {w1 W2 W3 : World} {t : List UInt8} {x : Value} (h : BoxAt w1 W2 t x) (hb : Below W2.heap.size W2 W3) : BoxAt w1 W3 t x :=
  ⟨h.below.trans (hb.mono h.below.size), (hb.block _ (Array.getElem?_eq_some_iff.1 h.box).1).trans h.box⟩
theorem BoxAt.cells {w1 W2 : World} {t : List UInt8} {x : Value} (h : BoxAt w1 W2 t x) : W2.cell? ⟨w1.heap.size, 0, none⟩ = some (.string ⟨t.toArray⟩) ∧ W2.cell? ⟨w1.heap.size, 1, none⟩ = some x := by
  have := h.box
  refine ⟨?_, ?_⟩ <;> simp [World.cell?, this]
/-- What Next holds while it compares. -/
structure Mid (w w1 W : World) (b : List UInt8) (a : Addr) (cap : Nat) (S : Seg) (x : Value) : Prop where
  at_ : NextAt w W
  box : BoxAt w1 W S.tag x
  inp : BytesIn (Has_ W) W (.slice (some a) b.length cap) b
  els : ElemsIn (NotSeg W) W x S.els
theorem Mid.keep {w w1 W W1 : World} {b : List UInt8} {a : Addr} {cap : Nat} {S : Seg} {x : Value} (h : Mid w w1 W b a cap S x) (hb : Below W.heap.size W W1) : Mid w w1 W1 b a cap S x :=
  ⟨h.at_.keep hb, h.box.keep hb, h.inp.keep hb, h.els.keep fun _ hb1 => hb1.keep hb⟩
theorem Mid.drew {w w1 W : World} {b : List UInt8} {a : Addr} {cap : Nat} {S : Seg} {x : Value} (h : Mid w w1 W b a cap S x) : Mid w w1 W.drew b a cap S x := h.keep (Below.refl _ _).drew
/-- What the region of the comparison loads. -/
def Loads (w1 W : World) (b : List UInt8) (a : Addr) (n cap : Nat) (S : Seg) (x : Value) : Prop :=
  (W.cell? ⟨w1.heap.size, 0, none⟩ = some (.string ⟨S.tag.toArray⟩) ∧ W.cell? ⟨w1.heap.size, 1, none⟩ = some x) ∧ (convert 32 9 (.slice (some a) (n + 1) cap)).run Try.prog W = .ok (.string ⟨(b.take (n + 1)).toArray⟩) W
theorem Mid.loads {w w1 W : World} {b : List UInt8} {a : Addr} {n cap : Nat} {S : Seg} {x : Value} (h : Mid w w1 W b a cap S x) (hn : n + 1 ≤ b.length) : Loads w1 W b a n cap S x := by
  refine ⟨h.box.cells, ?_⟩
  refine run_text_of_cells (P := Try.prog) W 32 9 5 _ _ Try.underlying32 Try.underlying5 Try.underlying9 (h.inp.take hn)
theorem mid_segment {w w1 W : World} {b : List UInt8} {a : Addr} {cap : Nat} {S : Seg} {xo : Option Addr} {xc : Nat} (h : Mid w w1 W b a cap S (.slice xo S.els.length xc)) (hst : S.tag.length ≤ maxLen) (F : Int) (hF : segE S = F) {Q : Ending → World → Prop}
    (hk : ∀ w3, Mid w w1 w3 b a cap S (.slice xo S.els.length xc) → Q (.returned (.int .i64 F)) w3) : Calls Try.prog 10 #[.agg #[.string ⟨S.tag.toArray⟩, .slice xo S.els.length xc]] W Q :=
  (refSegment_any S.tag hst _ S.els W (h.els.keep fun _ hb1 => ⟨hb1.has, rfl⟩)).mono fun e w3 h3 => by
    obtain ⟨rfl, hb3⟩ := h3
    rw [show segE ⟨S.tag, S.els⟩ = F from hF]
    exact hk w3 (h.keep hb3)
theorem mid_text {w w1 W : World} {b : List UInt8} {a : Addr} {cap : Nat} {S : Seg} {xo : Option Addr} {xc : Nat} (h : Mid w w1 W b a cap S (.slice xo S.els.length xc)) (hF : segE S = 0) (t : List UInt8) (ht : encS S = t) {Q : Ending → World → Prop}
    (hk : ∀ w3, Mid w w1 w3 b a cap S (.slice xo S.els.length xc) → Q (.returned (.string ⟨t.toArray⟩)) w3) : Calls Try.prog 29 #[.agg #[.string ⟨S.tag.toArray⟩, .slice xo S.els.length xc]] W Q := by
  have hlen := encS_len hF
  have htl : S.tag.length ≤ 1000 := by
    obtain ⟨b1, b2, b3, ht, _⟩ := tag_shape (seg_ok hF).1
    rw [ht]
    show 3 ≤ 1000
    omega
  refine (refText_any S.tag htl _ S.els W (h.els.keep fun _ hb1 => ⟨hb1.has, rfl⟩) (by show (encS S).length ≤ _; omega)).mono fun e w3 h3 => ?_
  obtain ⟨rfl, hb3⟩ := h3
  rw [show encS ⟨S.tag, S.els⟩ = t from ht]
  exact hk w3 (h.keep hb3)
theorem text_ne {x y : List UInt8} (h : x ≠ y) : ((⟨x.toArray⟩ : ByteArray) != ⟨y.toArray⟩) = true := by
  have e : ((⟨x.toArray⟩ : ByteArray) == ⟨y.toArray⟩) = (x.toArray == y.toArray) := rfl
  show (!((⟨x.toArray⟩ : ByteArray) == ⟨y.toArray⟩)) = true
  have : x.toArray ≠ y.toArray := fun h2 => h (by simpa using h2)
  rw [e, beq_eq_false_iff_ne.2 this]
  rfl
theorem rdT_tag {tag : List UInt8} : ∀ (ts : List Tok) (L : List (List (List UInt8))) (cur : List (List UInt8)) (word : List UInt8), (rdT tag L cur word ts).tag = tag
  | [], _, _, _ => rfl
  | .lit _ :: r, _, _, _ => rdT_tag r _ _ _
  | .plus :: r, _, _, _ => rdT_tag r _ _ _
  | .colon :: r, _, _, _ => rdT_tag r _ _ _
theorem rd1_tag : ∀ (ts : List Tok) (word : List UInt8), (rd1 word ts).tag.length ≤ word.length + ts.length
  | [], _ => Nat.le_refl _
  | .lit c :: r, word => by
    have := rd1_tag r (word ++ [c])
    rw [List.length_append] at this
    show (rd1 (word ++ [c]) r).tag.length ≤ word.length + (r.length + 1)
    have e : [c].length = 1 := rfl
    omega
  | .plus :: r, word => by
    show (rdT word [] [] [] r).tag.length ≤ _
    rw [rdT_tag]
    exact Nat.le_add_right _ _
  | .colon :: r, word => Nat.le_add_right _ _
theorem toks_len : ∀ (k : Nat) (b : List UInt8), b.length ≤ k → (toks b).length ≤ b.length
  | 0, b, h => by
    obtain rfl := List.eq_nil_of_length_eq_zero (Nat.le_zero.1 h)
    exact Nat.le_refl _
  | k + 1, [], _ => Nat.le_refl _
  | k + 1, [c], _ => Nat.le_refl _
  | k + 1, c :: d :: r, h => by
    have h1 : r.length + 1 + 1 ≤ k + 1 := h
    by_cases hc : c = 63
    · subst hc
      rw [toks_pair]
      have := toks_len k r (by omega)
      show (toks r).length + 1 ≤ r.length + 1 + 1
      omega
    · rw [toks_step hc]
      have := toks_len k (d :: r) (by show r.length + 1 ≤ k; omega)
      show (toks (d :: r)).length + 1 ≤ (d :: r).length + 1
      omega
theorem read_tag (b : List UInt8) : (readF b).tag.length ≤ b.length := by
  have := rd1_tag (toks b) []
  have h2 := toks_len b.length b (Nat.le_refl _)
  have e : ([] : List UInt8).length = 0 := rfl
  unfold readF
  omega

set_option maxRecDepth 100000 in
set_option maxHeartbeats 8000000 in
theorem refNext_any (v : Value) (b : List UInt8) (w : World) (h : BytesIn (Has_ w) w v b) (hb : b.length ≤ 1000000000) :
    Calls Try.prog 20 #[v] w fun e w' => ∃ x, e = .returned (.tuple #[.agg #[strV (nextF b).1.tag, x], .int .i64 (nextF b).2.1, .int .i64 (nextF b).2.2]) ∧ ElemsIn (NotSeg w') w' x (nextF b).1.els ∧ Below w.heap.size w w' := by
  obtain ⟨ao, cap, rfl, hbc⟩ := h.form
  have HB := Lib.hid (show ∀ (i : Nat) (c : UInt8), b[i]? = some c → ∃ a, ao = some a ∧ ∀ wx, Below w.heap.size w wx → wx.cell? (a.add i) = some (byteV c) from fun i c hi => by
    obtain ⟨a, h1, h2, h3⟩ := hbc i c hi
    exact ⟨a, h1, fun wx hbw => (hbw.cell (by rw [add_block]; exact h2)).trans h3⟩)
  have HI := Lib.hid h
  obtain ⟨R, hR⟩ : ∃ R, R = nextF b := ⟨_, rfl⟩
  have HR := Lib.hid hR
  rw [← hR]
  clear hR h hbc
  go_enter Try.func20, Try.ntmps20
  go_wp2_with fail
  obtain ⟨W0, hW0⟩ : ∃ W0, W0 = w.alloc (.cells #[.string ⟨#[]⟩, .slice none 0 0] 24) := ⟨_, rfl⟩
  have hB0 : Below w.heap.size w W0 := by rw [hW0]; exact (Below.refl _ _).alloc (Nat.le_refl _) _
  have hres : W0.heap[w.heap.size]? = some (.cells #[.string ⟨#[]⟩, .slice none 0 0] 24 (0, 0)) := by
    rw [hW0]
    show (w.heap.push _)[w.heap.size]? = some _
    simp
  have hq : (W0.cell? ⟨w.heap.size, 0, none⟩ = some (.string ⟨#[]⟩) ∧ W0.frozen? ⟨w.heap.size, 0, none⟩ = false) ∧ (W0.cell? ⟨w.heap.size, 1, none⟩ = some (.slice none 0 0) ∧ W0.frozen? ⟨w.heap.size, 1, none⟩ = false) := by
    refine ⟨⟨?_, ?_⟩, ?_, ?_⟩ <;> simp [World.cell?, World.frozen?, hres]
  obtain ⟨⟨z0, f0⟩, z1, f1⟩ := hq
  rw [← hW0]
  clear hW0
  go_loopw [5] (fun vn wx => ∃ n : Nat, vn = .int .i64 n ∧ n ≤ b.length + 1 ∧ Hid (EndTo b n) ∧ ∃ m, wx = W0.drewN m) (fun vn _ => b.length + 2 - (intOf vn).toNat)
  case atStart => exact ⟨0, by go_num, by omega, Lib.hid (EndTo.zero b), 0, rfl⟩
  case round =>
    obtain ⟨n, rfl, hn, HE, m, rfl⟩ := hrel
    have hbw : Below w.heap.size w (W0.drewN m) := below_drewN hB0 m
    have z0 : (W0.drewN m).cell? ⟨w.heap.size, 0, none⟩ = some (.string ⟨#[]⟩) := z0
    have z1 : (W0.drewN m).cell? ⟨w.heap.size, 1, none⟩ = some (.slice none 0 0) := z1
    have f0 : (W0.drewN m).frozen? ⟨w.heap.size, 0, none⟩ = false := f0
    have f1 : (W0.drewN m).frozen? ⟨w.heap.size, 1, none⟩ = false := f1
    by_cases hlt : n < b.length
    · obtain ⟨c, hc⟩ : ∃ c, b[n]? = some c := ⟨_, List.getElem?_eq_getElem hlt⟩
      obtain ⟨a, rfl, hcell⟩ := HB.out n c hc
      have q1 := hcell _ hbw
      unfold byteV at q1
      have d1 : decide ((n : Int) < (b.length : Int)) = true := decide_eq_true (by omega)
      have e39 : ((c.toNat : Int) == 39) = (c == 39) := byte_eq c 39 (by omega)
      have e63 : ((c.toNat : Int) == 63) = (c == 63) := byte_eq c 63 (by omega)
      by_cases h39 : c = 39
      · have g39 : ((c.toNat : Int) != 39) = false := by show (!((c.toNat : Int) == 39)) = false; rw [e39, h39]; rfl
        have d2 : decide ((b.length : Int) ≤ (n : Int)) = false := decide_eq_false (by omega)
        have hN := next_some (HE.out.hit (by rw [hc, h39]))
        rw [← HR.out] at hN
        have HR2 := Lib.hid hN
        have HI1 := Lib.hid (HI.out.keep hbw)
        have HT := Lib.hid (HI1.out.take (n := n) (by omega))
        have j1 : (0 : Int) ≤ (n : Int) := by omega
        have hcap := HI.out.cap
        have j2 : (n : Int) ≤ (cap : Int) := by omega
        have htl : (b.take n).length ≤ 1000000000 := by rw [List.length_take]; omega
        have HC := Lib.hid (refRead_any _ _ _ HT.out htl)
        clear HB hcell hc HE HR hN HI e39 e63 h39
        go_wp2_with fail
        refine HC.out.mono ?_
        rintro e w1 ⟨x, rfl, hx, hb1⟩
        have HX := Lib.hid hx
        have HA := Lib.hid ((NextAt.mk hbw hres).keep hb1)
        have HI2 := Lib.hid (HI1.out.keep (Below.refl _ _ |>.trans hb1))
        have hst : (readF (b.take n)).tag.length ≤ maxLen := by
          have h1 := read_tag (b.take n)
          unfold maxLen
          omega
        clear htl hx hb1 HC HT HI1 q1 z0 z1 f0 f1 hbw g39
        generalize readF (b.take n) = S at *
        obtain ⟨xo, xc, rfl, _⟩ := HX.out.form
        have hBx := box_at w1 S.tag (.slice xo S.els.length xc)
        obtain ⟨c0, c1⟩ := hBx.cells
        have HM := Lib.hid (show Mid w w1 _ b a cap S (.slice xo S.els.length xc) from ⟨HA.out.keep hBx.below, hBx, HI2.out.keep hBx.below, HX.out.keep fun _ hb1 => hb1.keep hBx.below⟩)
        clear hBx HX HI2 HA hB0 hres
        unfold strV
        go_wp2_with fail
        generalize w1.alloc (.cells #[.string ⟨S.tag.toArray⟩, .slice xo S.els.length xc] 24) = W2 at *
        have hl0 := HM.out.drew.loads (n := n) (by omega)
        obtain ⟨⟨k0, k1⟩, k2⟩ := hl0
        have HD := Lib.hid HM.out.drew
        have ht1 : ((n : Int) + 1).toNat = n + 1 := by omega
        have j3 : (0 : Int) ≤ (n : Int) + 1 := by omega
        have j4 : (n : Int) + 1 ≤ (cap : Int) := by omega
        have hn1 : n + 1 ≤ b.length := by omega
        have jw : IntKind.i64.wrap ((n : Int) + 1) = (n : Int) + 1 := by simp [IntKind.wrap, IntKind.bits, IntKind.signed]; omega
        clear HM
        by_cases hE : segE S = 0
        · obtain ⟨T, hT⟩ : ∃ T, encS S = T := ⟨_, rfl⟩
          by_cases hTT : T = b.take (n + 1)
          · rw [if_pos ⟨hE, hT.trans hTT⟩] at HR2
            have hT := hT.trans hTT
            go_region_held3 (fun w' => (w'.cell? ⟨w1.heap.size, 0, none⟩ = some (.string ⟨S.tag.toArray⟩) ∧ w'.cell? ⟨w1.heap.size, 1, none⟩ = some (.slice xo S.els.length xc)) ∧ (convert 32 9 (.slice (some a) (n + 1) cap)).run Try.prog w' = .ok (.string ⟨(b.take (n + 1)).toArray⟩) w')
              (first | exact ⟨⟨k0, k1⟩, k2⟩ | exact k3 | exact k4)
              (first | (go_at_call 10; refine mid_segment HD.out hst 0 hE ?_; intro w3 hM; have k3 := hM.loads hn1; have HM := Lib.hid hM; clear hM) | (go_at_call 29; refine mid_text HM.out hE _ hT ?_; intro w4 hM; have k4 := hM.loads hn1; have HN := Lib.hid hM; clear hM))
            obtain ⟨k5, k6⟩ := k4.1
            obtain ⟨⟨z0, f0⟩, z1, f1⟩ := HN.out.at_.cells
            clear k0 k1 k2 HD c0 c1
            go_wp2_with fail
            obtain ⟨g0, g1⟩ := setTwo z0 z1 (.string ⟨S.tag.toArray⟩) (.slice xo S.els.length xc)
            have hfin := HN.out.els.setTwo HN.out.at_.res (.string ⟨S.tag.toArray⟩) (.slice xo S.els.length xc)
            have hbel : Below w.heap.size w ((w4.setCell ⟨w.heap.size, 0, none⟩ (.string ⟨S.tag.toArray⟩)).setCell ⟨w.heap.size, 1, none⟩ (.slice xo S.els.length xc)) := (HN.out.at_.below.setCell (Nat.le_refl _) _).setCell (Nat.le_refl _) _
            generalize (w4.setCell ⟨w.heap.size, 0, none⟩ (.string ⟨S.tag.toArray⟩)).setCell ⟨w.heap.size, 1, none⟩ (.slice xo S.els.length xc) = W9 at *
            simp [bodyPost, results, Try.results20, go_sem, g0, g1]
            rw [HR2.out]
            exact ⟨_, ⟨⟨rfl, rfl⟩, by simp⟩, hfin, hbel⟩
          · rw [if_neg (fun h => hTT (hT.symm.trans h.2))] at HR2
            have d4 : ((⟨T.toArray⟩ : ByteArray) != ⟨(b.take (n + 1)).toArray⟩) = true := text_ne hTT
            have d5 : (T == b.take (n + 1)) = false := beq_eq_false_iff_ne.2 hTT
            go_region_held3 (fun w' => (w'.cell? ⟨w1.heap.size, 0, none⟩ = some (.string ⟨S.tag.toArray⟩) ∧ w'.cell? ⟨w1.heap.size, 1, none⟩ = some (.slice xo S.els.length xc)) ∧ (convert 32 9 (.slice (some a) (n + 1) cap)).run Try.prog w' = .ok (.string ⟨(b.take (n + 1)).toArray⟩) w')
              (first | exact ⟨⟨k0, k1⟩, k2⟩ | exact k3 | exact k4)
              (first | (go_at_call 10; refine mid_segment HD.out hst 0 hE ?_; intro w3 hM; have k3 := hM.loads hn1; have HM := Lib.hid hM; clear hM) | (go_at_call 29; refine mid_text HM.out hE _ hT ?_; intro w4 hM; have k4 := hM.loads hn1; have HN := Lib.hid hM; clear hM))
            obtain ⟨k5, k6⟩ := k4.1
            obtain ⟨⟨z0, f0⟩, z1, f1⟩ := HN.out.at_.cells
            clear k0 k1 k2 HD c0 c1
            go_wp2_with fail
            obtain ⟨g0, g1⟩ := setTwo z0 z1 (.string ⟨#[]⟩) (.slice none 0 0)
            have hbel : Below w.heap.size w ((w4.setCell ⟨w.heap.size, 0, none⟩ (.string ⟨#[]⟩)).setCell ⟨w.heap.size, 1, none⟩ (.slice none 0 0)) := (HN.out.at_.below.setCell (Nat.le_refl _) _).setCell (Nat.le_refl _) _
            generalize (w4.setCell ⟨w.heap.size, 0, none⟩ (.string ⟨#[]⟩)).setCell ⟨w.heap.size, 1, none⟩ (.slice none 0 0) = W9 at *
            simp [bodyPost, results, Try.results20, go_sem, g0, g1]
            rw [HR2.out]
            exact ⟨_, ⟨⟨rfl, rfl⟩, by simp⟩, ElemsIn.nil _ _, hbel⟩
        · have d3 : (segE S != 0) = true := by rw [bne_iff_ne]; exact hE
          rw [if_neg (fun h => hE h.1)] at HR2
          obtain ⟨F, hF⟩ : ∃ F, segE S = F := ⟨_, rfl⟩
          rw [hF] at d3
          refine wp_region_noPanic ?_
          refine wp_region_held_drew (S := fun w' => w'.cell? ⟨w1.heap.size, 0, none⟩ = some (.string ⟨S.tag.toArray⟩) ∧ w'.cell? ⟨w1.heap.size, 1, none⟩ = some (.slice xo S.els.length xc)) (by kernel_rfl) ⟨k0, k1⟩ (fun hHeld => ?_)
          refine wpAnyH_take (i := 0) (v := ?_) rfl (by kernel_rfl) (by kernel_rfl) (by kernel_rfl) (fun _ _ _ h => h) (Or.inl ⟨by rfl, ?_⟩) (by assumption) ?_
          rotate_left
          · intro wS hSw
            obtain ⟨hSw1, hSw2⟩ := hSw
            go_simp <;> with_reducible rfl
          try simp only [Act.put, List.getElem_toArray, List.getElem_cons_zero, List.setIfInBounds_toArray, List.set_cons_zero, List.set_cons_succ]
          refine wpAnyH_ready (rs := [1]) (by kernel_rfl) (by simp) ?_
          refine AllReadyH.cons rfl (fun K hK => ?_) AllReadyH.nil
          go_simp
          go_at_call 10
          refine mid_segment HD.out hst F hF ?_
          intro w3 hM
          have k3 := hM.loads hn1
          have HM := Lib.hid hM
          clear hM
          go_wp2_with fail
          refine hK.out _ _ k3.1 (fun hHeld => ?_)
          clear hK K
          try simp only [Act.put, List.getElem_toArray, List.getElem_cons_succ, List.getElem_cons_zero, List.setIfInBounds_toArray, List.set_cons_zero, List.set_cons_succ]
          refine wpAnyH_take (i := 2) (v := ?_) rfl (by kernel_rfl) (by kernel_rfl) (by kernel_rfl) (fun _ _ _ h => h) (Or.inl ⟨by rfl, ?_⟩) (by assumption) ?_
          rotate_left
          · intro wS hSw
            obtain ⟨hSw1, hSw2⟩ := hSw
            go_simp <;> with_reducible rfl
          try simp only [Act.put, List.getElem_toArray, List.getElem_cons_succ, List.getElem_cons_zero, List.setIfInBounds_toArray, List.set_cons_zero, List.set_cons_succ]
          refine wpAnyH_take (i := 3) (v := ?_) rfl (by kernel_rfl) (by kernel_rfl) (by kernel_rfl) (fun _ _ _ h => h) (Or.inl ⟨by rfl, ?_⟩) (by assumption) ?_
          rotate_left
          · intro wS hSw
            obtain ⟨hSw1, hSw2⟩ := hSw
            go_simp <;> with_reducible rfl
          try simp only [Act.put, List.getElem_toArray, List.getElem_cons_succ, List.getElem_cons_zero, List.setIfInBounds_toArray, List.set_cons_zero, List.set_cons_succ]
          refine wpAnyH_take (i := 4) (v := undef) rfl (by kernel_rfl) (by kernel_rfl) (by kernel_rfl) (fun _ _ _ h => h) (Or.inr ⟨by rfl, rfl⟩) (by assumption) ?_
          try simp only [Act.put, List.getElem_toArray, List.getElem_cons_succ, List.getElem_cons_zero, List.setIfInBounds_toArray, List.set_cons_zero, List.set_cons_succ]
          refine wpAnyH_take (i := 6) (v := undef) rfl (by kernel_rfl) (by kernel_rfl) (by kernel_rfl) (fun _ _ _ h => h) (Or.inr ⟨by rfl, rfl⟩) (by assumption) ?_
          try simp only [Act.put, List.getElem_toArray, List.getElem_cons_succ, List.getElem_cons_zero, List.setIfInBounds_toArray, List.set_cons_zero, List.set_cons_succ]
          refine wpAnyH_take (i := 7) (v := undef) rfl (by kernel_rfl) (by kernel_rfl) (by kernel_rfl) (fun _ _ _ h => h) (Or.inr ⟨by rfl, rfl⟩) (by assumption) ?_
          try simp only [Act.put, List.getElem_toArray, List.getElem_cons_succ, List.getElem_cons_zero, List.setIfInBounds_toArray, List.set_cons_zero, List.set_cons_succ]
          refine wpAnyH_take (i := 8) (v := undef) rfl (by kernel_rfl) (by kernel_rfl) (by kernel_rfl) (fun _ _ _ h => h) (Or.inr ⟨by rfl, rfl⟩) (by assumption) ?_
          try simp only [Act.put, List.getElem_toArray, List.getElem_cons_succ, List.getElem_cons_zero, List.setIfInBounds_toArray, List.set_cons_zero, List.set_cons_succ]
          refine wpAnyH_take (i := 9) (v := undef) rfl (by kernel_rfl) (by kernel_rfl) (by kernel_rfl) (fun _ _ _ h => h) (Or.inr ⟨by rfl, rfl⟩) (by assumption) ?_
          try simp only [Act.put, List.getElem_toArray, List.getElem_cons_succ, List.getElem_cons_zero, List.setIfInBounds_toArray, List.set_cons_zero, List.set_cons_succ]
          refine wpAnyH_take (i := 10) (v := undef) rfl (by kernel_rfl) (by kernel_rfl) (by kernel_rfl) (fun _ _ _ h => h) (Or.inr ⟨by rfl, rfl⟩) (by assumption) ?_
          try simp only [Act.put, List.getElem_toArray, List.getElem_cons_succ, List.getElem_cons_zero, List.setIfInBounds_toArray, List.set_cons_zero, List.set_cons_succ]
          refine wpAnyH_take (i := 5) (v := undef) rfl (by kernel_rfl) (by kernel_rfl) (by kernel_rfl) (fun _ _ _ h => h) (Or.inr ⟨by rfl, rfl⟩) (by assumption) ?_
          try simp only [Act.put, List.getElem_toArray, List.getElem_cons_succ, List.getElem_cons_zero, List.setIfInBounds_toArray, List.set_cons_zero, List.set_cons_succ]
          refine wpAnyH_take (i := 11) (v := undef) rfl (by kernel_rfl) (by kernel_rfl) (by kernel_rfl) (fun _ _ _ h => h) (Or.inr ⟨by rfl, rfl⟩) (by assumption) ?_
          try simp only [Act.put, List.getElem_toArray, List.getElem_cons_succ, List.getElem_cons_zero, List.setIfInBounds_toArray, List.set_cons_zero, List.set_cons_succ]
          refine wpAnyH_take (i := 12) (v := ?_) rfl (by kernel_rfl) (by kernel_rfl) (by kernel_rfl) (fun _ _ _ h => h) (Or.inl ⟨by rfl, ?_⟩) (by assumption) ?_
          rotate_left
          · intro wS hSw
            obtain ⟨hSw1, hSw2⟩ := hSw
            go_simp <;> with_reducible rfl
          try simp only [Act.put, List.getElem_toArray, List.getElem_cons_succ, List.getElem_cons_zero, List.setIfInBounds_toArray, List.set_cons_zero, List.set_cons_succ]
          refine wpAnyH_done (by kernel_rfl) ?_ _
          refine NoPanic.normal ?_
          obtain ⟨k5, k6⟩ := k3.1
          obtain ⟨⟨z0, f0⟩, z1, f1⟩ := HM.out.at_.cells
          clear k0 k1 k2 HD c0 c1
          go_wp2_with fail
          obtain ⟨g0, g1⟩ := setTwo z0 z1 (.string ⟨#[]⟩) (.slice none 0 0)
          have hbel : Below w.heap.size w ((w3.setCell ⟨w.heap.size, 0, none⟩ (.string ⟨#[]⟩)).setCell ⟨w.heap.size, 1, none⟩ (.slice none 0 0)) := (HM.out.at_.below.setCell (Nat.le_refl _) _).setCell (Nat.le_refl _) _
          generalize (w3.setCell ⟨w.heap.size, 0, none⟩ (.string ⟨#[]⟩)).setCell ⟨w.heap.size, 1, none⟩ (.slice none 0 0) = W9 at *
          simp [bodyPost, results, Try.results20, go_sem, g0, g1]
          rw [HR2.out]
          exact ⟨_, ⟨⟨rfl, rfl⟩, by simp⟩, ElemsIn.nil _ _, hbel⟩
      · have g39 : ((c.toNat : Int) != 39) = true := by show (!((c.toNat : Int) == 39)) = true; rw [e39, beq_eq_false_iff_ne.2 h39]; rfl
        by_cases h63 : c = 63
        · rw [beq_iff_eq.2 h63] at e63
          have HE2 := Lib.hid (show EndTo b (n + 2) from by
            rcases HE.out.pair (by rw [hc, h63]) with h | h
            · exact h
            · exact h.2)
          clear HB hcell hc HE HR HI e39 h39 h63
          go_wp2_with fail
          go_roundw
          case rel => exact ⟨n + 2, by go_num, by omega, HE2, _, rfl⟩
          case measure => simp [intOf]; omega
        · rw [beq_eq_false_iff_ne.2 h63] at e63
          have HE2 := Lib.hid (HE.out.step hc h39 h63)
          clear HB hcell hc HE HR HI e39 h39 h63
          go_wp2_with fail
          go_roundw
          case rel => exact ⟨n + 1, by go_num, by omega, HE2, _, rfl⟩
          case measure => simp [intOf]; omega
    · have d1 : decide ((n : Int) < (b.length : Int)) = false := decide_eq_false (by omega)
      have d2 : decide ((b.length : Int) ≤ (n : Int)) = true := decide_eq_true (by omega)
      have hN : R = (noSeg, 0, 5) := HR.out.trans (next_none (HE.out.over (by omega)))
      clear HB HE HR HI
      subst hN
      go_wp2_with fail
      obtain ⟨g0, g1⟩ := setTwo z0 z1 (.string ⟨#[]⟩) (.slice none 0 0)
      have hbel : Below w.heap.size w (((W0.drewN m).setCell ⟨w.heap.size, 0, none⟩ (.string ⟨#[]⟩)).setCell ⟨w.heap.size, 1, none⟩ (.slice none 0 0)) := (hbw.setCell (Nat.le_refl _) _).setCell (Nat.le_refl _) _
      generalize ((W0.drewN m).setCell ⟨w.heap.size, 0, none⟩ (.string ⟨#[]⟩)).setCell ⟨w.heap.size, 1, none⟩ (.slice none 0 0) = W9 at *
      simp [bodyPost, results, Try.results20, go_sem, g0, g1]
      exact ⟨_, ⟨rfl, rfl⟩, ElemsIn.nil _ _, hbel⟩
end Go.Proofs.Ytenlfapdmknkjaa
