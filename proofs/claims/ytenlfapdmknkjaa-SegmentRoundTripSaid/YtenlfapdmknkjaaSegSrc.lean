/- The made inputs' source of texts: what text returns. Condition: the source lies in a block of the call's own, its list in older ones. -/
import Derived.Test.YtenlfapdmknkjaaSource
import Derived.Test.YtenlfapdmknkjaaByteRow
namespace Go.Proofs.Ytenlfapdmknkjaa
open Go.RowKit

/-- Only the source and new blocks have turned. -/
structure Since (SB : Nat) (w w1 : World) : Prop where
  size : w.heap.size ≤ w1.heap.size
  block : ∀ b, b < w.heap.size → b ≠ SB → w1.heap[b]? = w.heap[b]?
theorem Since.refl (SB : Nat) (w : World) : Since SB w w := ⟨Nat.le_refl _, fun _ _ _ => rfl⟩
theorem Since.trans {SB : Nat} {w w1 w2 : World} (h : Since SB w w1) (h2 : Since SB w1 w2) : Since SB w w2 :=
  ⟨Nat.le_trans h.size h2.size, fun b hb hne => (h2.block b (Nat.lt_of_lt_of_le hb h.size) hne).trans (h.block b hb hne)⟩
theorem Since.next {SB : Nat} {w w1 : World} (h : NextTo w w1 SB) : Since SB w w1 := ⟨by rw [h.size]; exact Nat.le_refl _, fun _ _ hne => h.heap hne⟩
theorem Since.below {SB : Nat} {w w1 : World} (h : Below w.heap.size w w1) : Since SB w w1 := ⟨h.size, fun b hb _ => h.block b hb⟩
theorem Since.grown {SB : Nat} {w w1 w2 : World} {row : Option Nat} (h : Since SB w w1) (hg : w1.grownBy w2 row) (hr : ∀ k, row = some k → w.heap.size ≤ k) : Since SB w w2 :=
  ⟨Nat.le_trans h.size hg.size, fun b hb hne => (hg.block b (Nat.lt_of_lt_of_le hb h.size) (fun e => by have := hr b e.symm; omega)).trans (h.block b hb hne)⟩
theorem Since.alloc {SB : Nat} {w w1 : World} (h : Since SB w w1) (o : Obj) : Since SB w (w1.alloc o) := h.trans (Since.below ((Below.refl _ _).alloc (Nat.le_refl _) _))
theorem Since.drewN {SB : Nat} {w w1 : World} (h : Since SB w w1) (k : Nat) : Since SB w (w1.drewN k) := ⟨h.size, h.block⟩
/-- A row stays while only the source and new blocks turn. -/
theorem Since.row {SB : Nat} {w w1 : World} (h : Since SB w w1) {base : Nat} {e : TypeId} {size : Nat} {v : Value} {n : Nat} {xs : List Value} (hr : w.ownsRow base e size v n xs) (hb : SB < base) : w1.ownsRow base e size v n xs := by
  obtain ⟨r1, r2⟩ := hr
  refine ⟨r1, ?_⟩
  rcases r2 with r2 | ⟨g, cap, cur, r3, r4, r5, r6⟩
  · exact .inl r2
  · exact .inr ⟨g, cap, cur, r3, r4, (h.block g (Array.getElem?_eq_some_iff.1 r5).1 (by omega)).trans r5, r6⟩
theorem SourceAt.grown {W0 w w1 : World} {SB : Nat} {row : Option Nat} (h : SourceAt W0 w SB) (hg : w.grownBy w1 row) (hr : ∀ k, row = some k → SB < k) : SourceAt W0 w1 SB := by
  obtain ⟨s1, s2, v, m, f, k, a1, a2, a3, a4, a5, a6⟩ := h
  have hlt : SB < w.heap.size := World.block_lt_of_cell? w _ a4
  have hne : some SB ≠ row := fun e => by have := hr SB e.symm; omega
  exact ⟨s1, s2.grown hg s2.size (fun j hj => by have := hr j hj; omega), v, m, f, k, a1, a2, a3, hg.cell a4 hne, hg.cell a5 hne, (World.frozen?_of_block (hg.block SB hlt hne)).trans a6⟩
theorem SourceAt.alloc {W0 w : World} {SB : Nat} (h : SourceAt W0 w SB) (o : Obj) : SourceAt W0 (w.alloc o) SB := h.keep ((Below.refl _ _).alloc (Nat.le_refl _) _)
theorem SourceAt.drewN {W0 w : World} {SB : Nat} (h : SourceAt W0 w SB) (k : Nat) : SourceAt W0 (w.drewN k) SB := h.keep (below_drewN (Below.refl _ _) _)
theorem SourceAt.lt {W0 w : World} {SB : Nat} (h : SourceAt W0 w SB) : SB < w.heap.size := by
  obtain ⟨s1, s2, v, m, f, k, a1, a2, a3, a4, a5, a6⟩ := h
  exact World.block_lt_of_cell? w _ a4

/-- A row of any bytes, while text fills it. -/
structure FillAt (W0 w wx : World) (SB g n : Nat) : Prop where
  src : SourceAt W0 wx SB
  since : Since SB w wx
  lo : w.heap.size ≤ g
  row : ∃ l : List UInt8, l.length = n ∧ wx.ownsRow (SB + 1) 5 1 (.slice (some ⟨g, 0, none⟩) n n) n (l.map byteV)
theorem FillAt.cell {W0 w wx : World} {SB g n : Nat} (h : FillAt W0 w wx SB g n) (i : Nat) (hi : i < n) : (∃ x, wx.cell? ⟨g, i, none⟩ = some (byteV x)) ∧ wx.frozen? ⟨g, i, none⟩ = false := by
  obtain ⟨l, h1, h2⟩ := h.row
  refine ⟨⟨l[i]'(by omega), ?_⟩, h2.frozenAt i⟩
  rw [h2.cellAt i (by omega), List.getElem?_map, List.getElem?_eq_getElem (by omega)]
  rfl
theorem FillAt.put {W0 w wx : World} {SB g n : Nat} (h : FillAt W0 w wx SB g n) (i : Nat) (x : UInt8) : FillAt W0 w (wx.setCell ⟨g, i, none⟩ (byteV x)) SB g n := by
  obtain ⟨l, h1, h2⟩ := h.row
  obtain ⟨h3, h4⟩ := h2.stored i (byteV x)
  have hg := (h2.lt g rfl).1
  exact ⟨h.src.grown h4 (fun k hk => by cases hk; omega), h.since.grown h4 (fun k hk => by cases hk; exact h.lo), h.lo, l.set i x, by simp [h1], by rw [List.map_set]; exact h3⟩
theorem FillAt.next {W0 w wx w1 : World} {SB g n : Nat} (h : FillAt W0 w wx SB g n) (hs : SourceAt W0 w1 SB) (hn : NextTo wx w1 SB) : FillAt W0 w w1 SB g n := by
  obtain ⟨l, h1, h2⟩ := h.row
  exact ⟨hs, h.since.trans (Since.next hn), h.lo, l, h1, (Since.next hn).row h2 (Nat.lt_succ_self _)⟩
theorem FillAt.drewN {W0 w wx : World} {SB g n : Nat} (h : FillAt W0 w wx SB g n) (k : Nat) : FillAt W0 w (wx.drewN k) SB g n := ⟨h.src.drewN k, h.since.drewN k, h.lo, h.row⟩
theorem info_byte : (Try.prog.info? 5).map (fun i => (i.zero, i.size, i.bytes)) = some (some (.int .u8 0), 1, 1) := by kernel_rfl
theorem fill_made {W0 w w1 : World} {SB : Nat} (hs : SourceAt W0 w1 SB) (hn : Since SB w w1) (n : Nat) (hm : n ≤ maxLen) : FillAt W0 w (w1.alloc (.cells (madeCells #[.int .u8 0] n) 5)) SB w1.heap.size n := by
  refine ⟨hs.alloc _, hn.alloc _, hn.size, List.replicate n 0, by simp, ?_⟩
  have h := World.ownsRow_lit (base := SB + 1) (e := 5) (size := 1) w1 (madeCells #[.int .u8 0] n) n (by have := hs.lt; omega) hm (by simp [size_madeCells])
  rw [toList_madeCells_one] at h
  simpa [byteV] using h

set_option maxRecDepth 100000 in
set_option maxHeartbeats 1600000 in
theorem madeText_any (SB : Nat) (W0 w : World) (h : SourceAt W0 w SB) :
    Calls Try.prog 27 #[.pointer (some ⟨SB, 0, none⟩)] w fun e w1 => ∃ l : List UInt8, e = .returned (strV l) ∧ l.length ≤ 4 ∧ SourceAt W0 w1 SB ∧ Since SB w w1 := by
  have HN := Lib.hid (fun (k : Int) (h1 : 0 < k) (h2 : k ≤ 1000000000000) (w1 : World) (h : SourceAt W0 w1 SB) => next_any k h1 h2 SB W0 w1 h)
  have H0 := Lib.hid h
  obtain ⟨i0, hi0, hz0, hz1, hz2⟩ := info_parts info_byte
  have hmk := fun (n : Nat) (hn : n ≤ 4) (W : World) => run_make (P := Try.prog) W 32 5 i0 (.int .u8 0) Try.underlying32 hi0 hz0 .i64 .i64 (n : Int) (n : Int) (by omega) (by omega) (by rw [hz2]; omega) (by omega)
  clear h
  go_enter Try.func27, Try.ntmps27
  go_wp2_with fail
  refine (HN.out 5 (by omega) (by omega) _ H0.out).mono ?_
  rintro e w1 ⟨r, rfl, r0, r1, hs, hn⟩
  obtain ⟨n, rfl⟩ : ∃ n : Nat, r = n := ⟨r.toNat, by omega⟩
  have hn4 : n ≤ 4 := by omega
  have hmk := hmk n hn4 w1
  simp only [Int.toNat_natCast, hz1, Nat.mul_one] at hmk
  have hF := Lib.hid (fill_made hs (Since.next hn) n (by unfold maxLen; omega))
  clear hs hn H0 r0 r1
  go_wp2_with fail
  clear hmk
  generalize w1.heap.size = G at *
  generalize w1.alloc (.cells (madeCells #[.int .u8 0] n) 5) = W1 at *
  go_loopw [4] (fun vi wx => ∃ i : Nat, vi = .int .i64 i ∧ i ≤ n ∧ Hid (FillAt W0 w wx SB G n)) (fun vi _ => n - (intOf vi).toNat)
  case atStart => exact ⟨0, by go_num, by omega, hF⟩
  case round =>
    clear hF
    obtain ⟨i, rfl, hi, hF⟩ := hrel
    by_cases hlt : i < n
    · go_wp2_with fail
      refine (HN.out 8 (by omega) (by omega) _ hF.out.src).mono ?_
      rintro e w2 ⟨r, rfl, r0, r1, hs, hn⟩
      obtain ⟨m, rfl⟩ : ∃ m : Nat, r = m := ⟨r.toNat, by omega⟩
      have hF2 := Lib.hid (hF.out.next hs hn)
      obtain ⟨⟨x, c1⟩, c2⟩ := hF2.out.cell i hlt
      clear hF hs hn
      go_wp2_with fail
      refine (HN.out 512 (by omega) (by omega) _ (hF2.out.put i _).src).mono ?_
      rintro e w3 ⟨k, rfl, k0, k1, hs, hn⟩
      have hF3 := Lib.hid ((hF2.out.put i _).next hs hn)
      obtain ⟨m2, rfl⟩ : ∃ m : Nat, k = m := ⟨k.toNat, by omega⟩
      obtain ⟨⟨y, c3⟩, c4⟩ := hF3.out.cell i hlt
      clear hF2 hs hn c1 c2
      by_cases hk : m2 < 256
      · have d1 : decide ((m2 : Int) < 256) = true := decide_eq_true (by omega)
        have hF4 := Lib.hid (hF3.out.put i (UInt8.ofNat m2))
        have hv : byteV (UInt8.ofNat m2) = .int .u8 (m2 : Int) := by
          unfold byteV
          rw [UInt8.toNat_ofNat', Nat.mod_eq_of_lt (by omega)]
        rw [hv] at hF4
        have hw : IntKind.u8.wrap (m2 : Int) = (m2 : Int) := by simp [IntKind.wrap, IntKind.bits, IntKind.signed]; omega
        clear hv hF3
        go_wp2_with fail
        go_roundw
        case rel => exact ⟨i + 1, by go_num, by omega, hF4⟩
        case measure => simp [intOf]; omega
      · have d1 : decide ((m2 : Int) < 256) = false := decide_eq_false (by omega)
        go_wp2_with fail
        go_roundw
        case rel => exact ⟨i + 1, by go_num, by omega, hF3⟩
        case measure => simp [intOf]; omega
    · obtain rfl : i = n := by omega
      obtain ⟨l, hl, hr⟩ := hF.out.row
      have hcv := run_text_of_cells (P := Try.prog) wr 32 9 5 _ l Try.underlying32 Try.underlying5 Try.underlying9 (by rw [hl]; exact CellsIn.own hr)
      clear hr
      go_wp2_with fail
      go_ret
      exact ⟨l, rfl, by omega, hF.out.src, hF.out.since⟩
end Go.Proofs.Ytenlfapdmknkjaa
